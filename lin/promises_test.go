package lin_test

import (
	"math"
	"math/rand"
	"slices"
	"sync"
	"testing"

	"overfall/api"
	"overfall/conf"
	"overfall/core"
	"overfall/fix"
	"overfall/front"
	"overfall/gate"
	"overfall/lin"
	"overfall/play"
)

// anyNumber is often one at which something could go wrong.
func anyNumber(r *rand.Rand) int {
	switch r.Intn(6) {
	case 0:
		return math.MinInt + r.Intn(2)
	case 1:
		return math.MaxInt - r.Intn(2)
	case 2:
		return int(r.Uint64()) >> r.Intn(64)
	}
	return r.Intn(5) - 1
}

func anyOp(r *rand.Rand) core.Op {
	return core.Op{Kind: byte(r.Intn(5)), Tier: anyNumber(r), Cohort: anyNumber(r), N: int64(anyNumber(r))}
}

func anyResult(r *rand.Rand) core.Result {
	return core.Result{Answer: byte(r.Intn(256)), Ticket: uint64(anyNumber(r)), Tier: anyNumber(r), Cohort: anyNumber(r), Sojourn: int64(anyNumber(r))}
}

func anyConfig(r *rand.Rand) conf.Config {
	c := randomConfig(r)
	switch r.Intn(10) {
	case 0:
		c.Tiers = anyNumber(r)
	case 1:
		c.Room = anyNumber(r)
	case 2:
		c.Ring, c.Threads = anyNumber(r), anyNumber(r)
	case 3:
		c.Horizon, c.Dwell = int64(anyNumber(r)), int64(anyNumber(r))
	case 4:
		c.Setpoint, c.Kp, c.Ki, c.Kd = fix.Q(anyNumber(r)), fix.Q(anyNumber(r)), fix.Q(anyNumber(r)), fix.Q(anyNumber(r))
	case 5:
		c.Target, c.Interval, c.Horizon = 1<<40, 1<<40, 1<<50
	}
	return c
}

// meaninglessHistory is of no use but for being anything.
func meaninglessHistory(r *rand.Rand) play.History {
	var h play.History
	for range r.Intn(12) {
		h.Calls = append(h.Calls, play.Call{
			Thread: anyNumber(r), Op: anyOp(r), Begin: anyNumber(r), End: anyNumber(r),
			From: int64(anyNumber(r)), To: int64(anyNumber(r)), Picks: anyNumber(r), Result: anyResult(r),
		})
		h.Picked = append(h.Picked, anyNumber(r))
	}
	for range r.Intn(12) {
		h.Applied = append(h.Applied, front.Applied{Thread: anyNumber(r), Clock: int64(anyNumber(r)), Op: anyOp(r), Result: anyResult(r)})
	}
	for i := range min(len(h.Calls), len(h.Applied)) {
		if r.Intn(2) == 0 {
			h.Applied[i].Thread, h.Applied[i].Op = h.Calls[i].Thread, h.Calls[i].Op
		}
	}
	return h
}

func meaninglessCalls(r *rand.Rand) []lin.Done {
	var l []lin.Done
	for range r.Intn(9) {
		l = append(l, lin.Done{Begin: anyNumber(r), End: anyNumber(r), Op: anyOp(r), Result: anyResult(r)})
	}
	return l
}

// P1, P2

func TestAnyHistory(t *testing.T) {
	r := rand.New(rand.NewSource(11))
	for range 8000 {
		c, h := anyConfig(r), meaninglessHistory(r)
		if r.Intn(3) == 0 {
			followCore(sized(4, 9), &h)
		}
		got := lin.Check(c, h)
		if want := faultOf(c, h); got != want || lin.Check(c, h) != got {
			t.Fatalf("%+v, not %+v, for %+v", got, want, h)
		}
	}
}

func TestAnyCalls(t *testing.T) {
	r := rand.New(rand.NewSource(12))
	for range 4000 {
		c, l, now := anyConfig(r), meaninglessCalls(r), int64(anyNumber(r))
		got, e := lin.Order(c, now, l)
		want, f := orderOf(c, now, l)
		again, g := lin.Order(c, now, l)
		if e != f || e != g || !slices.Equal(got, want) || !slices.Equal(got, again) {
			t.Fatalf("%v, %d, then %v, %d, not %v, %d, for %+v at %d", got, e, again, g, want, f, l, now)
		}
	}
}

// TestLongHistory: each call has a thread of its own, and all of them the entries in the opposite order.
func TestLongHistory(t *testing.T) {
	const calls = 100000
	h := play.History{Calls: make([]play.Call, calls), Applied: make([]front.Applied, calls)}
	for i := range calls {
		h.Calls[i] = call(-i, poll(), i, calls)
		h.Applied[i] = front.Applied{Thread: i + 1 - calls, Op: poll(), Result: empty()}
		h.Calls[i].Result = empty()
	}
	if got := lin.Check(conf.Default(), h); got != right {
		t.Error(got)
	}
	h.Applied[calls-1].Thread = 1
	if got := lin.Check(conf.Default(), h); got != fault(calls-1, whose) {
		t.Error(got)
	}
	for i := range calls { // one thread
		h.Calls[i].Thread, h.Applied[i].Thread = 0, 0
	}
	if got := lin.Check(conf.Default(), h); got != right {
		t.Error(got)
	}
	h.Applied = h.Applied[:calls-1]
	if got := lin.Check(conf.Default(), h); got != fault(calls-1, lost) {
		t.Error(got)
	}
}

// TestAtOnce: calls share nothing, so many goroutines may be in them.
func TestAtOnce(t *testing.T) {
	h := three(t)
	wrong := but(h, func(h *play.History) { h.Applied[2].Result.Tier = 9 })
	l := []lin.Done{polls(dispatched(2, 1)), admits(2, 1), polls(dispatched(1, 1)), admits(1, 1), opens(0, poll())}
	var all sync.WaitGroup
	for range 8 {
		all.Go(func() {
			for range 200 {
				if lin.Check(sized(4, 9), h) != right || lin.Check(sized(4, 9), wrong) != fault(2, answer) {
					t.Error("another fault")
					return
				}
				if got, e := lin.Order(sized(4, 9), 0, l); e != api.OK || !slices.Equal(got, []int{3, 1, 2, 0}) {
					t.Error("another order:", got, e)
					return
				}
			}
		})
	}
	all.Wait()
}

// Memory

// withSpare returns a list with spare capacity, in which something lies.
func withSpare[T any](l []T, more T) (all, without []T) {
	all = append(slices.Clone(l), slices.Repeat([]T{more}, 20)...)
	return all, all[:len(l)]
}

func TestCheckKeepsToItsOwnMemory(t *testing.T) {
	h := three(t)
	calls, given := withSpare(h.Calls, call(0, poll(), 0, 0))
	applied, some := withSpare(h.Applied, front.Applied{Thread: 77})
	picked, those := withSpare([]int{0, 1, 0}, 77)
	calls0, applied0, picked0 := slices.Clone(calls), slices.Clone(applied), slices.Clone(picked)
	if got := lin.Check(sized(4, 9), play.History{Calls: given, Applied: some, Picked: those}); got != right {
		t.Error(got)
	}
	if !slices.Equal(calls, calls0) || !slices.Equal(applied, applied0) || !slices.Equal(picked, picked0) {
		t.Error("the history was changed")
	}
}

func TestOrderKeepsToItsOwnMemory(t *testing.T) {
	l := []lin.Done{polls(dispatched(2, 1)), admits(2, 1), polls(dispatched(1, 1)), admits(1, 1)}
	want := []int{3, 1, 2, 0}
	all, given := withSpare(l, polls(refused()))
	before := slices.Clone(all)
	got, _ := lin.Order(sized(4, 9), 0, given)
	if !slices.Equal(all, before) {
		t.Error("the calls were changed")
	}
	again, _ := lin.Order(sized(4, 9), 0, given)
	for i := range all {
		all[i] = polls(admitted(9, 9))
	}
	whole := again[:cap(again)]
	for i := range whole {
		whole[i] = -7
	}
	if !slices.Equal(got, want) {
		t.Error("an order shares memory with the calls or with another one:", got)
	}
}

// P3

// TestHistoriesOfFronts: the calls of all threads have the effect of a core, whatever the order of their steps.
func TestHistoriesOfFronts(t *testing.T) {
	r := rand.New(rand.NewSource(3))
	applied, refusals, open := 0, 0, 0
	for range 600 {
		c := randomConfig(r)
		if r.Intn(6) == 0 {
			c.Threads, c.Ring = 1+r.Intn(api.MaxThreads), 2<<r.Intn(6)
		}
		h := randomHistory(t, r, c, r.Intn(1500))
		if got := lin.Check(c, h); got != right {
			t.Fatalf("%d violates %s in %+v", got.At, lin.Name(got.Rule), h)
		}
		applied += len(h.Applied)
		refusals += h.Busy()
		open += len(h.Open())
	}
	if applied < 10000 || refusals < 100 || open < 100 {
		t.Error("hardly a call was applied, Busy or open:", applied, refusals, open)
	}
}

// doneOf are the calls of a history.
func doneOf(h play.History) []lin.Done {
	var l []lin.Done
	for _, c := range h.Calls {
		l = append(l, lin.Done{Begin: c.Begin, End: c.End, Op: c.Op, Result: c.Result})
	}
	return l
}

// fewCalls is a script of one time, in which as many calls begin as Order takes.
func fewCalls(r *rand.Rand, threads int, now int64) []play.Item {
	items := []play.Item{{Kind: play.Tick, N: now}}
	starts := 0
	for _, item := range randomItems(r, threads, r.Intn(250)) {
		if item.Kind == play.Start {
			starts++
		}
		if item.Kind == play.Pick || item.Kind == play.Start && starts <= api.MaxCalls {
			items = append(items, item)
		}
	}
	return items
}

// TestFewCallsOfFronts have an order by their times and results alone.
func TestFewCallsOfFronts(t *testing.T) {
	r := rand.New(rand.NewSource(4))
	lengths := map[int]int{}
	for range 3000 {
		c, now := randomConfig(r), int64(r.Intn(50))
		h, _ := play.Run(c, fewCalls(r, c.Threads, now))
		l := doneOf(h)
		got, e := lin.Order(c, now, l)
		if e != api.OK {
			t.Fatalf("%d for %+v", e, l)
		}
		holdOrderOfAll(t, c, now, l, got)
		lengths[len(got)]++
	}
	for n := range 5 {
		if lengths[n] < 100 {
			t.Errorf("hardly an order had %d calls: %v", n, lengths)
		}
	}
}

// holdOrderOfAll makes a history of an order, in which each call has its own thread, and has it checked.
func holdOrderOfAll(t *testing.T, c conf.Config, now int64, l []lin.Done, order []int) {
	t.Helper()
	h := play.History{}
	for i, d := range l {
		h.Calls = append(h.Calls, play.Call{Thread: i, Op: d.Op, Begin: d.Begin, End: d.End, From: now, To: now, Result: d.Result})
	}
	k, _ := core.New(c)
	for _, i := range order {
		h.Applied = append(h.Applied, front.Applied{Thread: i, Clock: now, Op: l[i].Op, Result: k.Do(now, l[i].Op)})
	}
	if got := lin.Check(c, h); got != right {
		t.Fatalf("%v: %d violates %s in %+v", order, got.At, lin.Name(got.Rule), l)
	}
}

// TestOrdersAreRight: each order that is found is one that Check finds right, and contains what has ended.
func TestOrdersAreRight(t *testing.T) {
	r := rand.New(rand.NewSource(5))
	found := 0
	for range 4000 {
		c, now := randomConfig(r), int64(r.Intn(70))
		l := randomCalls(r, c, now)
		if len(l) > 0 && r.Intn(2) == 0 {
			spoilDone(r, l)
		}
		if got, e := lin.Order(c, now, l); e == api.OK {
			found++
			holdOrderOfAll(t, c, now, l, got)
		}
	}
	if found < 1000 {
		t.Error("hardly an order was found:", found)
	}
}

// P4

// TestTicketWithTwoOutcomes, or one that was never given, is found as an answer that no core has.
func TestTicketWithTwoOutcomes(t *testing.T) {
	calls := []play.Call{call(0, submit(1), 0, 9), call(1, submit(1), 0, 9), call(2, poll(), 0, 9), call(3, poll(), 0, 9)}
	h := history(t, calls, at{0, 0}, at{1, 0}, at{2, 0}, at{3, 0})
	for _, ticket := range []uint64{1, 3, 0, math.MaxUint64} {
		twice := but(h, func(h *play.History) { h.Applied[3].Result.Ticket, h.Calls[3].Result.Ticket = ticket, ticket })
		holdCheck(t, twice, fault(3, answer))
		holdOrder(t, doneOf(twice))
	}
	again := but(h, func(h *play.History) { h.Applied[1].Result.Ticket, h.Calls[1].Result.Ticket = 1, 1 })
	holdCheck(t, again, fault(1, answer))
	holdOrder(t, doneOf(again))
	holdOrder(t, doneOf(h), 0, 1, 2, 3)
}

// TestDispatchAfterTheDeadline is found too.
func TestDispatchAfterTheDeadline(t *testing.T) {
	op := core.Op{Kind: core.Submit, Tier: 1, Cohort: 3, N: 5}
	h := history(t, []play.Call{call(0, op, 0, 9), call(1, poll(), 0, 9)}, at{0, 0}, at{1, 4})
	holdCheck(t, h, right)
	holdCheck(t, but(h, func(h *play.History) {
		h.Applied[1].Clock = 5
		h.Applied[1].Result.Sojourn, h.Calls[1].Result.Sojourn = 5, 5
	}), fault(1, answer))
}

// P5

// TestLessCriticalFirst: what rejects or passes over a more critical request is found.
func TestLessCriticalFirst(t *testing.T) {
	calls := []play.Call{call(0, submit(3), 0, 9), call(1, submit(0), 0, 9), call(2, poll(), 0, 9)}
	h := history(t, calls, at{0, 0}, at{1, 0}, at{2, 0})
	holdCheck(t, h, right)
	wrong := but(h, func(h *play.History) { h.Applied[2].Result, h.Calls[2].Result = dispatched(1, 3), dispatched(1, 3) })
	holdCheck(t, wrong, fault(2, answer))
	holdOrder(t, doneOf(wrong), 0, 2, 1) // if they may have been at the same time
	wrong.Calls[2].Begin, wrong.Calls[2].End = 10, 19
	holdOrder(t, doneOf(wrong))

	c := sized(4, 1)
	full := core.Result{Answer: gate.Full}
	l := []lin.Done{done(0, 1, submit(3), admitted(1, 3)), done(2, 3, submit(0), admitted(2, 0)), done(4, 5, submit(1), full)}
	holdOrderAt(t, c, 0, l, []int{0, 1, 2})
	l[1].Result, l[2].Result = full, full
	holdOrderAt(t, c, 0, l, nil)
}

// P7

// TestBusyOfFullRings: calls that end with Busy leave nothing behind that would be a fault.
func TestBusyOfFullRings(t *testing.T) {
	r := rand.New(rand.NewSource(7))
	refusals := 0
	for range 300 {
		c := randomConfig(r)
		c.Threads, c.Ring = 3+r.Intn(6), 2
		_, h, _ := play.Finish(c, randomItems(r, c.Threads, r.Intn(600)), 18*c.Threads+24)
		if got := lin.Check(c, h); got != right || len(h.Open()) != 0 {
			t.Fatalf("%+v, open are %v", got, h.Open())
		}
		if h.Busy() == 0 {
			continue
		}
		refusals++
		first := slices.IndexFunc(h.Calls, func(c play.Call) bool { return isBusy(c.End, c.Result) })
		h.Calls[first].Result = core.Result{Answer: gate.Full} // as if it had been applied
		if got := lin.Check(c, h); got == right || got != faultOf(c, h) {
			t.Fatalf("%+v, not %+v", got, faultOf(c, h))
		}
	}
	if refusals < 100 {
		t.Error("hardly a history had Busy calls:", refusals)
	}
}
