package play_test

import (
	"math"
	"slices"
	"testing"

	"overfall/api"
	"overfall/conf"
	"overfall/core"
	"overfall/front"
	"overfall/gate"
	"overfall/play"
)

func sized(threads, ring int) conf.Config {
	c := conf.Default()
	c.Threads, c.Ring = threads, ring
	return c
}

func submit(tier int) core.Op { return core.Op{Kind: core.Submit, Tier: tier, N: 500} }

func poll() core.Op { return core.Op{Kind: core.Poll} }

func start(thread int, op core.Op) []play.Item {
	return []play.Item{{Kind: play.Start, Thread: thread, Op: op}}
}

func tick(n int64) []play.Item { return []play.Item{{Kind: play.Tick, N: n}} }

// picks has a Pick of each thread that is named, in order.
func picks(threads ...int) []play.Item {
	var items []play.Item
	for _, thread := range threads {
		items = append(items, play.Item{Kind: play.Pick, Thread: thread})
	}
	return items
}

func times(n, thread int) []play.Item { return picks(slices.Repeat([]int{thread}, n)...) }

func script(parts ...[]play.Item) []play.Item { return slices.Concat(parts...) }

// alone is how many Picks a call takes that no other thread holds up, where each thread has a position in the ring.
const alone = 15

func run(t *testing.T, c conf.Config, parts ...[]play.Item) play.History {
	t.Helper()
	h, e := play.Run(c, script(parts...))
	if e != api.OK {
		t.Fatal("the script is not executed:", e)
	}
	return h
}

func admitted(ticket uint64, tier int) core.Result {
	return core.Result{Answer: gate.Admitted, Ticket: ticket, Tier: tier}
}

func equal(a, b play.History) bool {
	return slices.Equal(a.Calls, b.Calls) && slices.Equal(a.Applied, b.Applied) && slices.Equal(a.Picked, b.Picked)
}

func holdCalls(t *testing.T, h play.History, want ...play.Call) {
	t.Helper()
	if !slices.Equal(h.Calls, want) {
		t.Errorf("the calls are %+v, not %+v", h.Calls, want)
	}
}

// wrongConfigs has some that differ from a valid one in one field each, and the one without anything.
func wrongConfigs() []conf.Config {
	spoils := []func(c *conf.Config){
		func(c *conf.Config) { c.Threads = 0 },
		func(c *conf.Config) { c.Threads = -1 },
		func(c *conf.Config) { c.Threads = api.MaxThreads + 1 },
		func(c *conf.Config) { c.Threads = math.MaxInt },
		func(c *conf.Config) { c.Threads = math.MinInt },
		func(c *conf.Config) { c.Ring = 0 },
		func(c *conf.Config) { c.Ring = 3 },
		func(c *conf.Config) { c.Ring = 2 * api.MaxRing },
		func(c *conf.Config) { c.Tiers = api.MaxTiers + 1 },
		func(c *conf.Config) { c.Room = 0 },
		func(c *conf.Config) { c.Target = 0 },
		func(c *conf.Config) { c.Horizon = c.Target - 1 },
		func(c *conf.Config) { c.High = c.Low - 1 },
		func(c *conf.Config) { c.Step = 0 },
		func(c *conf.Config) { *c = conf.Config{} },
	}
	var wrong []conf.Config
	for _, spoil := range spoils {
		c := conf.Default()
		spoil(&c)
		wrong = append(wrong, c)
	}
	return wrong
}

// P21.1

func TestKindsNumbers(t *testing.T) {
	if kinds := [...]int{play.Pick, play.Start, play.Tick}; kinds != [...]int{0, 1, 2} {
		t.Error(kinds)
	}
}

func TestRunReturnsTheErrorOfValid(t *testing.T) {
	items := script(start(0, submit(0)), tick(3), times(alone, 0))
	for n, c := range wrongConfigs() {
		for _, l := range [][]play.Item{nil, items} {
			if h, e := play.Run(c, l); e != api.ErrArg || e != c.Valid() || !equal(h, play.History{}) {
				t.Errorf("%d: %+v, %d, not nothing and ErrArg", n, h, e)
			}
		}
	}
}

func TestEmptyScripts(t *testing.T) {
	for _, items := range [][]play.Item{nil, {}} {
		if h, e := play.Run(conf.Default(), items); e != api.OK || !equal(h, play.History{}) {
			t.Errorf("%+v, %d", h, e)
		}
	}
}

func TestExample(t *testing.T) {
	h := run(t, conf.Default(), start(0, submit(2)), times(15, 0))
	holdCalls(t, h, play.Call{Op: submit(2), End: 15, Picks: 15, Result: admitted(1, 2)})
	want := []front.Applied{{Op: submit(2), Result: admitted(1, 2)}}
	if !slices.Equal(h.Applied, want) || !slices.Equal(h.Picked, make([]int, 15)) {
		t.Errorf("%+v", h)
	}
	if len(h.Open()) != 0 || !slices.Equal(h.Of(0), []int{0}) || h.Busy() != 0 {
		t.Error(h.Open(), h.Of(0), h.Busy())
	}
}

// TestCallThatHasNotEnded has no End, no To and no Result before its last step, also when it is applied already.
func TestCallThatHasNotEnded(t *testing.T) {
	for n := range alone {
		h := run(t, conf.Default(), tick(7), start(3, submit(1)), times(n, 3), tick(2))
		holdCalls(t, h, play.Call{Thread: 3, Op: submit(1), Begin: 1, End: -1, From: 7, Picks: n})
		if applied := n >= 10; len(h.Applied) == 1 != applied {
			t.Errorf("after %d Picks %+v is applied", n, h.Applied)
		}
		if len(h.Picked) != n || !slices.Equal(h.Open(), []int{0}) {
			t.Errorf("after %d Picks: %v, %v", n, h.Picked, h.Open())
		}
	}
}

// TestPicksAfterTheEnd are Picked, but not the call's, whose end they leave where it was.
func TestPicksAfterTheEnd(t *testing.T) {
	h := run(t, conf.Default(), times(4, 1), start(1, submit(0)), times(alone, 1), tick(9), times(20, 1))
	holdCalls(t, h, play.Call{Thread: 1, Op: submit(0), Begin: 4, End: 19, Picks: alone, Result: admitted(1, 0)})
	if !slices.Equal(h.Picked, slices.Repeat([]int{1}, 4+alone+20)) {
		t.Error(h.Picked)
	}
}

func TestEachCallHasItsOwnPicks(t *testing.T) {
	h := run(t, conf.Default(),
		start(2, submit(0)), times(alone+3, 2),
		start(2, poll()), times(alone+1, 2),
		start(2, poll()), times(5, 2))
	out := core.Result{Answer: gate.Dispatched, Ticket: 1}
	holdCalls(t, h,
		play.Call{Thread: 2, Op: submit(0), Begin: 0, End: 15, Picks: alone, Result: admitted(1, 0)},
		play.Call{Thread: 2, Op: poll(), Begin: 19, End: 34, Picks: alone, Result: out},
		play.Call{Thread: 2, Op: poll(), Begin: 36, End: -1, Picks: 5})
}

func TestPicksOfOtherThreadsAreNotTheCalls(t *testing.T) {
	h := run(t, conf.Default(), start(0, submit(0)), picks(1, 0, 3, -1, 0, 4, 0), times(12, 0), picks(2))
	holdCalls(t, h, play.Call{Op: submit(0), End: 19, Picks: alone, Result: admitted(1, 0)})
}

// TestStartsWithoutEffect: of a thread that does not exist, or that has a call already, which goes on as if nothing had been asked.
func TestStartsWithoutEffect(t *testing.T) {
	var items []play.Item
	for _, thread := range []int{-1, 4, 5, api.MaxThreads, math.MaxInt, math.MinInt, 1 << 32} {
		items = append(items, start(thread, core.Op{Kind: core.Drain})...)
	}
	if h := run(t, conf.Default(), items, picks(0, 4)); len(h.Calls) != 0 || len(h.Applied) != 0 {
		t.Errorf("%+v", h)
	}
	items = start(1, submit(1))
	for range alone {
		items = script(items, start(1, core.Op{Kind: core.Drain}), picks(1))
	}
	h := run(t, conf.Default(), items, start(1, poll()))
	holdCalls(t, h,
		play.Call{Thread: 1, Op: submit(1), End: 2 * alone, Picks: alone, Result: admitted(1, 1)},
		play.Call{Thread: 1, Op: poll(), Begin: 2*alone + 1, End: -1})
	if len(h.Applied) != 1 || len(h.Picked) != alone {
		t.Errorf("%+v", h)
	}
}

func TestPickedContainsAllPicks(t *testing.T) {
	threads := []int{3, -1, 0, math.MaxInt, 4, 1, 1, math.MinInt, 0, 2, -4, 1 << 32, 16, 0}
	h := run(t, conf.Default(), picks(threads[:5]...), tick(1), start(0, submit(0)), picks(threads[5:]...), start(4, poll()))
	if !slices.Equal(h.Picked, threads) {
		t.Errorf("%v, not %v", h.Picked, threads)
	}
	holdCalls(t, h, play.Call{Op: submit(0), Begin: 6, End: -1, From: 1, Picks: 2})
}

// TestOtherKinds have no effect wherever they stand: only the indices of the items behind them grow.
func TestOtherKinds(t *testing.T) {
	base := script(tick(2), start(0, submit(0)), times(9, 0), tick(3), times(alone-9, 0))
	for kind := 3; kind <= 255; kind++ {
		for at := range len(base) + 1 {
			other := play.Item{Kind: byte(kind), Thread: at % 5, N: int64(at), Op: core.Op{Kind: core.Drain}}
			want := play.Call{Op: submit(0), Begin: 1, End: 17, From: 2, To: 5, Picks: alone, Result: admitted(1, 0)}
			if at <= want.Begin {
				want.Begin++
			}
			if at <= want.End {
				want.End++
			}
			h := run(t, conf.Default(), slices.Insert(slices.Clone(base), at, other))
			holdCalls(t, h, want)
			if len(h.Picked) != alone || len(h.Applied) != 1 || h.Applied[0].Clock != 5 {
				t.Fatalf("kind %d at %d: %+v", kind, at, h)
			}
		}
	}
}

// TestFieldsOfOtherKinds: an item has the effect of its Kind alone, whatever else it has.
func TestFieldsOfOtherKinds(t *testing.T) {
	op := core.Op{Kind: core.Drain, Tier: 9, N: 9}
	items := []play.Item{
		{Kind: play.Tick, Thread: 0, N: 4, Op: op},
		{Kind: play.Start, Thread: 0, N: 50, Op: submit(3)},
		{Kind: play.Tick, Thread: -1, N: 5, Op: op},
	}
	for range alone {
		items = append(items, play.Item{Kind: play.Pick, Thread: 0, N: 6, Op: op})
	}
	h := run(t, conf.Default(), items)
	holdCalls(t, h, play.Call{Op: submit(3), Begin: 1, End: 17, From: 4, To: 9, Picks: alone, Result: admitted(1, 3)})
}

func TestTimes(t *testing.T) {
	for _, c := range []struct{ before, during, after, from, to int64 }{
		{0, 0, 0, 0, 0},
		{3, 0, 8, 3, 3},
		{0, 6, 8, 0, 6},
		{3, 6, 8, 3, 9},
		{-3, 6, 8, 0, 6},
		{3, -6, -8, 3, 3},
		{3, math.MinInt64, 0, 3, 3},
		{math.MinInt64, -1, 0, 0, 0},
		{math.MaxInt64, 0, 0, math.MaxInt64, math.MaxInt64},
		{7, math.MaxInt64, 0, 7, math.MaxInt64},
		{math.MaxInt64 - 4, 3, 9, math.MaxInt64 - 4, math.MaxInt64 - 1},
		{math.MaxInt64 - 4, 5, 9, math.MaxInt64 - 4, math.MaxInt64},
	} {
		h := run(t, conf.Default(), tick(c.before), start(0, poll()), times(9, 0), tick(c.during), times(alone-9, 0), tick(c.after))
		holdCalls(t, h, play.Call{Op: poll(), Begin: 1, End: 17, From: c.from, To: c.to, Picks: alone, Result: core.Result{Answer: gate.Empty}})
		if len(h.Applied) != 1 || h.Applied[0].Clock != c.to {
			t.Errorf("%+v: %+v", c, h.Applied)
		}
	}
}

// TestCallsInOrderOfBeginning: 1 begins after 0, serves both, and ends first.
func TestCallsInOrderOfBeginning(t *testing.T) {
	h := run(t, conf.Default(),
		start(0, submit(0)), times(3, 0), tick(1),
		start(1, submit(1)), times(3, 1), tick(1), times(18, 1), tick(1),
		start(2, submit(2)), picks(0))
	holdCalls(t, h,
		play.Call{Op: submit(0), End: 30, To: 3, Picks: 4, Result: admitted(1, 0)},
		play.Call{Thread: 1, Op: submit(1), Begin: 5, End: 27, From: 1, To: 2, Picks: 21, Result: admitted(2, 1)},
		play.Call{Thread: 2, Op: submit(2), Begin: 29, End: -1, From: 3})
	want := []front.Applied{{Clock: 2, Op: submit(0), Result: admitted(1, 0)}, {Thread: 1, Clock: 2, Op: submit(1), Result: admitted(2, 1)}}
	if !slices.Equal(h.Applied, want) {
		t.Errorf("%+v, not %+v", h.Applied, want)
	}
}

// TestBusyCalls: two calls fill the ring, so others end with Busy at their second Pick, and are not applied.
func TestBusyCalls(t *testing.T) {
	h := run(t, sized(3, 2),
		start(0, submit(0)), times(5, 0), start(1, submit(1)), times(5, 1),
		tick(4), start(2, poll()), times(3, 2), start(2, submit(2)), times(9, 2), start(2, poll()), picks(2))
	busy := core.Result{Answer: gate.Busy}
	holdCalls(t, h,
		play.Call{Op: submit(0), End: -1, Picks: 5},
		play.Call{Thread: 1, Op: submit(1), Begin: 6, End: -1, Picks: 5},
		play.Call{Thread: 2, Op: poll(), Begin: 13, End: 16, From: 4, To: 4, Picks: 3, Result: busy},
		play.Call{Thread: 2, Op: submit(2), Begin: 17, End: 20, From: 4, To: 4, Picks: 3, Result: busy},
		play.Call{Thread: 2, Op: poll(), Begin: 27, End: -1, From: 4, Picks: 1})
	if len(h.Applied) != 0 || h.Busy() != 2 || !slices.Equal(h.Open(), []int{0, 1, 4}) || !slices.Equal(h.Of(2), []int{2, 3, 4}) {
		t.Error(h.Applied, h.Busy(), h.Open(), h.Of(2))
	}
}

// TestEachRunHasANewFront: nothing is left of an earlier script.
func TestEachRunHasANewFront(t *testing.T) {
	items := script(start(0, submit(0)), times(alone, 0), start(1, core.Op{Kind: core.Drain}), times(alone-1, 1), tick(5))
	first := run(t, conf.Default(), items)
	run(t, sized(2, 2), start(1, submit(1)), times(4, 1))
	if again := run(t, conf.Default(), items); !equal(again, first) {
		t.Errorf("%+v, not %+v", again, first)
	}
}

// spoil overwrites all that a slice has, with its spare capacity.
func spoil[T any](l []T, with T) {
	l = l[:cap(l)]
	for i := range l {
		l[i] = with
	}
}

func spoilAll(h play.History) {
	spoil(h.Calls, play.Call{Thread: -9, Begin: -9, End: -9})
	spoil(h.Applied, front.Applied{Thread: -9, Clock: -9})
	spoil(h.Picked, -9)
}

// withSpare returns items with spare capacity, in which something lies.
func withSpare(items []play.Item) (all, without []play.Item) {
	all = append(slices.Clone(items), slices.Repeat([]play.Item{{Kind: 77, Thread: 77}}, 100)...)
	return all, all[:len(items)]
}

func TestRunKeepsToItsOwnMemory(t *testing.T) {
	items := script(start(0, submit(0)), times(alone, 0), tick(1), start(1, submit(1)), times(alone, 1), start(2, poll()))
	all, given := withSpare(items)
	before := slices.Clone(all)
	h := run(t, conf.Default(), items)
	got, _ := play.Run(conf.Default(), given)
	if !slices.Equal(all, before) {
		t.Fatal("the items were changed")
	}
	spoil(all, play.Item{Kind: 99, Thread: 99})
	if !equal(got, h) {
		t.Fatal("the items are kept")
	}
	again := run(t, conf.Default(), items)
	spoilAll(got)
	if !equal(again, h) {
		t.Fatal("two histories share memory")
	}
}

// P21.2

func TestFinishReturnsTheErrorOfValid(t *testing.T) {
	items := script(start(0, submit(0)), times(3, 0))
	for n, c := range wrongConfigs() {
		for _, rounds := range []int{math.MinInt, -1, 0, 1, 1000, math.MaxInt} {
			if l, h, e := play.Finish(c, items, rounds); e != api.ErrArg || len(l) != 0 || !equal(h, play.History{}) {
				t.Errorf("%d: %v, %+v, %d, not nothing and ErrArg", n, l, h, e)
			}
		}
	}
}

// roundsOf is what Finish is to append.
func roundsOf(threads, rounds int) []play.Item {
	var items []play.Item
	for range rounds {
		for thread := range threads {
			items = append(items, picks(thread)...)
		}
	}
	return items
}

func finish(t *testing.T, c conf.Config, items []play.Item, rounds int) ([]play.Item, play.History) {
	t.Helper()
	l, h, e := play.Finish(c, items, rounds)
	if e != api.OK {
		t.Fatal("the script is not finished:", e)
	}
	return l, h
}

func TestFinishAppendsRounds(t *testing.T) {
	scripts := [][]play.Item{
		nil,
		{},
		script(start(0, submit(0)), tick(3)),
		script(start(0, submit(0)), times(4, 0), start(1, poll()), picks(1, -1, 99), []play.Item{{Kind: 9, Thread: 1, N: 2}}),
	}
	for _, threads := range []int{1, 2, 3, api.MaxThreads} {
		c := sized(threads, 16)
		for _, items := range scripts {
			for rounds, want := range map[int]int{math.MinInt: 0, -1000: 0, -1: 0, 0: 0, 1: 1, 2: 2, 17: 17, 999: 999, 1000: 1000, 1001: 1000, 1 << 32: 1000, math.MaxInt: 1000} {
				l, h := finish(t, c, items, rounds)
				if all := script(items, roundsOf(threads, want)); !slices.Equal(l, all) {
					t.Fatalf("%d rounds of %d threads: %d items, not %d, or others", rounds, threads, len(l), len(all))
				}
				if !equal(h, run(t, c, l)) {
					t.Fatalf("%d rounds: not the history of all items", rounds)
				}
			}
		}
	}
}

func TestFinishEndsWhatIsOpen(t *testing.T) {
	items := script(start(1, submit(1)), start(3, submit(3)), tick(2), times(2, 3))
	_, h := finish(t, conf.Default(), items, 0)
	if !slices.Equal(h.Open(), []int{0, 1}) {
		t.Fatal(h.Open())
	}
	l, h := finish(t, conf.Default(), items, 100)
	if len(h.Open()) != 0 || len(l) != 405 || len(h.Picked) != 402 {
		t.Fatal(h.Open(), len(l), len(h.Picked))
	}
	// Before the rounds, 3 has claimed the first position in the ring.
	if h.Calls[0].Result != admitted(2, 1) || h.Calls[1].Result != admitted(1, 3) {
		t.Errorf("%+v", h.Calls)
	}
	for _, c := range h.Calls {
		if c.End < len(items) || c.From != 0 || c.To != 2 {
			t.Errorf("%+v", c)
		}
	}
}

func TestFinishKeepsToItsOwnMemory(t *testing.T) {
	items := script(start(0, submit(0)), times(alone, 0), tick(1), start(1, submit(1)), times(4, 1))
	for _, rounds := range []int{-1, 0, 1, 5} {
		want, wanted := finish(t, conf.Default(), items, rounds)
		all, given := withSpare(items)
		before := slices.Clone(all)
		l, h := finish(t, conf.Default(), given, rounds)
		if !slices.Equal(all, before) {
			t.Fatal("the items were changed")
		}
		spoil(all, play.Item{Kind: 99, Thread: 99})
		if !slices.Equal(l, want) || !equal(h, wanted) {
			t.Fatal("the items are kept")
		}
		again, third := finish(t, conf.Default(), items, rounds)
		spoil(l, play.Item{Kind: 99, Thread: 99})
		if !equal(h, wanted) {
			t.Fatal("the items and the history share memory")
		}
		spoilAll(h)
		if !slices.Equal(again, want) || !equal(third, wanted) {
			t.Fatal("two results share memory")
		}
	}
}

// some has calls that have ended and some that have not, also with the answer Busy, and threads that no front has.
func some() play.History {
	busy := core.Result{Answer: gate.Busy}
	return play.History{Calls: []play.Call{
		{Thread: 0, Begin: 0, End: 4, Result: admitted(1, 0)},
		{Thread: 1, Begin: 1, End: -1},
		{Thread: 0, Begin: 5, End: 9, Result: busy},
		{Thread: 0, Begin: 10, End: -1, Result: busy},
		{Thread: -1, Begin: 11, End: 0, Result: busy},
		{Thread: math.MaxInt, Begin: 12, End: -1, To: 5, Picks: 3},
		{Thread: -1, Begin: 13, End: math.MaxInt, Result: core.Result{Answer: gate.Full}},
	}, Applied: make([]front.Applied, 9), Picked: []int{0, 1, 2, 3}}
}

func TestHistorysMethods(t *testing.T) {
	h := some()
	for range 2 {
		if got := h.Open(); !slices.Equal(got, []int{1, 3, 5}) {
			t.Error("open are", got)
		}
		for thread, want := range map[int][]int{0: {0, 2, 3}, 1: {1}, 2: nil, -1: {4, 6}, -2: nil, math.MaxInt: {5}, math.MinInt: nil, 1 << 32: nil} {
			if got := h.Of(thread); !slices.Equal(got, want) {
				t.Errorf("of %d are %v, not %v", thread, got, want)
			}
		}
		if h.Busy() != 2 {
			t.Error("so many are Busy:", h.Busy())
		}
	}
	if want := some(); !equal(h, want) {
		t.Error("asking changes the history")
	}
}

func TestHistoryOfNothing(t *testing.T) {
	for _, h := range []play.History{{}, {Calls: []play.Call{}, Picked: []int{1, 2}, Applied: make([]front.Applied, 3)}} {
		if len(h.Open()) != 0 || len(h.Of(0)) != 0 || h.Busy() != 0 {
			t.Error(h.Open(), h.Of(0), h.Busy())
		}
	}
}

func TestIndicesAreNewMemory(t *testing.T) {
	h := some()
	open, of := h.Open(), h.Of(0)
	spoil(h.Open(), -7)
	spoil(h.Of(0), -7)
	if !slices.Equal(open, []int{1, 3, 5}) || !slices.Equal(of, []int{0, 2, 3}) || !equal(h, some()) {
		t.Error("two results share memory", open, of)
	}
	spoil(h.Calls, play.Call{})
	if !slices.Equal(open, []int{1, 3, 5}) || !slices.Equal(of, []int{0, 2, 3}) {
		t.Error("a result is the history's own memory", open, of)
	}
}
