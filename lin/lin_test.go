package lin_test

import (
	"math"
	"slices"
	"testing"

	"overfall/api"
	"overfall/conf"
	"overfall/core"
	"overfall/front"
	"overfall/gate"
	"overfall/lin"
	"overfall/play"
)

// The rules, as the chapter numbers them.
const (
	whose  = 1
	when   = 2
	clock  = 3
	answer = 4
	order  = 5
	lost   = 6
)

var right = lin.Fault{At: -1}

func fault(at int, rule byte) lin.Fault { return lin.Fault{At: at, Rule: rule} }

func sized(tiers, room int) conf.Config {
	c := conf.Default()
	c.Tiers, c.Room = tiers, room
	return c
}

func submit(tier int) core.Op { return core.Op{Kind: core.Submit, Tier: tier, Cohort: 3, N: 500} }

func poll() core.Op { return core.Op{Kind: core.Poll} }

func empty() core.Result { return core.Result{Answer: gate.Empty} }

func refused() core.Result { return core.Result{Answer: gate.Busy} }

// call is one that lasts as long as its items, during any time.
func call(thread int, op core.Op, begin, end int) play.Call {
	return play.Call{Thread: thread, Op: op, Begin: begin, End: end, To: math.MaxInt64}
}

// at is the entry of a call, by its index, at a time.
type at struct {
	call  int
	clock int64
}

// history lets a core of 4 tiers with room for 9 execute the calls' operations in the order of the entries, and gives each call that has ended its result.
func history(t *testing.T, calls []play.Call, entries ...at) play.History {
	t.Helper()
	k, e := core.New(sized(4, 9))
	if e != api.OK {
		t.Fatal(e)
	}
	h := play.History{Calls: slices.Clone(calls)}
	for _, entry := range entries {
		c := &h.Calls[entry.call]
		result := k.Do(entry.clock, c.Op)
		h.Applied = append(h.Applied, front.Applied{Thread: c.Thread, Clock: entry.clock, Op: c.Op, Result: result})
		if c.End >= 0 {
			c.Result = result
		}
	}
	return h
}

func copied(h play.History) play.History {
	return play.History{Calls: slices.Clone(h.Calls), Applied: slices.Clone(h.Applied), Picked: slices.Clone(h.Picked)}
}

// but is a history in which something is otherwise.
func but(h play.History, change func(h *play.History)) play.History {
	h = copied(h)
	change(&h)
	return h
}

func holdCheck(t *testing.T, h play.History, want lin.Fault) {
	t.Helper()
	holdCheckOf(t, sized(4, 9), h, want)
}

// holdCheckOf holds Check against what it should be, and so does it with the plain restatement.
func holdCheckOf(t *testing.T, c conf.Config, h play.History, want lin.Fault) {
	t.Helper()
	if got := lin.Check(c, h); got != want {
		t.Errorf("%+v, not %+v, for %+v", got, want, h)
	}
	if got := faultOf(c, h); got != want {
		t.Errorf("restated %+v, not %+v, for %+v", got, want, h)
	}
}

// three has calls one after the other, of two threads, at the times 3, 5 and 5.
func three(t *testing.T) play.History {
	t.Helper()
	calls := []play.Call{call(0, submit(2), 0, 4), call(1, submit(1), 5, 9), call(0, poll(), 10, 14)}
	calls[0].From, calls[0].To = 2, 4
	calls[1].From, calls[1].To = 5, 8
	calls[2].From, calls[2].To = 5, 8
	return history(t, calls, at{0, 3}, at{1, 5}, at{2, 5})
}

func TestName(t *testing.T) {
	want := map[int]string{1: "whose", 2: "when", 3: "clock", 4: "answer", 5: "order", 6: "lost"}
	for rule := range 256 {
		if got := lin.Name(byte(rule)); got != want[rule] {
			t.Errorf("%d is %q, not %q", rule, got, want[rule])
		}
	}
}

// P22.1

func TestNothingToExamine(t *testing.T) {
	for _, h := range []play.History{{}, {Calls: []play.Call{}, Applied: []front.Applied{}}, {Picked: []int{0, 1, 2}}} {
		holdCheck(t, h, right)
	}
}

func TestRightHistories(t *testing.T) {
	h := three(t)
	holdCheck(t, h, right)
	holdCheck(t, history(t, h.Calls[:1], at{0, 4}), right)
	long := []play.Call{call(5, submit(0), 0, 20), call(6, submit(1), 1, 19), call(7, poll(), 2, -1), call(8, poll(), 3, 18)}
	for _, entries := range [][]at{
		{{0, 0}, {1, 0}, {2, 0}, {3, 0}},
		{{3, 1}, {2, 2}, {1, 3}, {0, 4}},
		{{2, 7}, {0, 7}, {3, 9}, {1, 9}},
		{{1, 0}, {3, 0}, {0, 0}}, // the one that has not ended has no entry
	} {
		holdCheck(t, history(t, long, entries...), right)
	}
}

// wrongConfigs has some that differ from a valid one in one field each, and the one without anything.
func wrongConfigs() []conf.Config {
	spoils := []func(c *conf.Config){
		func(c *conf.Config) { c.Tiers = 0 },
		func(c *conf.Config) { c.Tiers = api.MaxTiers + 1 },
		func(c *conf.Config) { c.Room = 0 },
		func(c *conf.Config) { c.Room = math.MaxInt },
		func(c *conf.Config) { c.Target = 0 },
		func(c *conf.Config) { c.Horizon = c.Target - 1 },
		func(c *conf.Config) { c.High = c.Low - 1 },
		func(c *conf.Config) { c.Step = 0 },
		func(c *conf.Config) { c.Threads = 0 },
		func(c *conf.Config) { c.Threads = api.MaxThreads + 1 },
		func(c *conf.Config) { c.Ring = 3 },
		func(c *conf.Config) { *c = conf.Config{} },
	}
	var wrong []conf.Config
	for _, spoil := range spoils {
		c := sized(4, 9)
		spoil(&c)
		wrong = append(wrong, c)
	}
	return wrong
}

func TestConfigThatIsNotValidHasNoFault(t *testing.T) {
	h := three(t)
	histories := []play.History{
		{},
		h,
		but(h, func(h *play.History) { h.Applied[0].Thread = 7 }),
		but(h, func(h *play.History) { h.Applied[1].Result.Ticket = 7 }),
		but(h, func(h *play.History) { h.Applied = nil }),
	}
	for _, c := range wrongConfigs() {
		for _, h := range histories {
			holdCheckOf(t, c, h, right)
		}
	}
}

// TestThreadsOfAHistory: a history may have any threads, whatever the configuration's are.
func TestThreadsOfAHistory(t *testing.T) {
	calls := []play.Call{call(-1, submit(0), 0, 1), call(math.MaxInt, poll(), 2, 3), call(math.MinInt, poll(), 4, 5), call(1<<32, submit(1), 6, -1), call(0, poll(), 7, 8)}
	h := history(t, calls, at{0, 0}, at{1, 0}, at{2, 0}, at{3, 0}, at{4, 0})
	holdCheck(t, h, right)
	holdCheck(t, but(h, func(h *play.History) { h.Applied[3].Thread = 0 }), fault(3, whose))
}

// Rule 1

func TestEntryOfNoCall(t *testing.T) {
	h := three(t)
	for i := range h.Applied {
		for _, thread := range []int{2, -1, math.MaxInt, math.MinInt, 1 << 32} {
			holdCheck(t, but(h, func(h *play.History) { h.Applied[i].Thread = thread }), fault(i, whose))
		}
		again := h.Applied[i]
		again.Clock = 8
		holdCheck(t, but(h, func(h *play.History) { h.Applied = append(h.Applied, again) }), fault(3, whose))
	}
	holdCheck(t, play.History{Applied: h.Applied}, fault(0, whose))
	holdCheck(t, but(h, func(h *play.History) { h.Calls = h.Calls[:2] }), fault(2, whose))
}

// changesOf has an operation with one field otherwise each.
func changesOf(op core.Op) []core.Op {
	others := []core.Op{op, op, op, op, op, op}
	others[0].Kind++
	others[1].Kind--
	others[2].Tier++
	others[3].Cohort--
	others[4].N++
	others[5].N--
	return others
}

func TestEntryWithAnotherOp(t *testing.T) {
	h := three(t)
	for i := range h.Applied {
		for _, op := range changesOf(h.Applied[i].Op) {
			holdCheck(t, but(h, func(h *play.History) { h.Applied[i].Op = op }), fault(i, whose))
			holdCheck(t, but(h, func(h *play.History) { h.Calls[i].Op = op }), fault(i, whose))
		}
	}
}

// TestFirstCallOfItsThread: entries of a thread belong to its calls in their order, however they fit others.
func TestFirstCallOfItsThread(t *testing.T) {
	calls := []play.Call{call(1, submit(1), 0, 9), call(1, submit(2), 1, 9), call(1, submit(3), 2, -1)}
	holdCheck(t, history(t, calls, at{0, 0}, at{1, 0}, at{2, 0}), right)
	holdCheck(t, history(t, calls, at{0, 0}, at{1, 0}), right)
	holdCheck(t, history(t, calls, at{1, 0}, at{0, 0}, at{2, 0}), fault(0, whose))
	holdCheck(t, history(t, calls, at{0, 0}, at{2, 0}, at{1, 0}), fault(1, whose))
	holdCheck(t, history(t, calls[1:], at{1, 0}), fault(0, whose))

	// Two alike: the first entry is the first one's, though only the other one fits it.
	same := []play.Call{call(1, poll(), 0, 9), call(1, poll(), 1, 9)}
	same[0].From, same[1].To = 5, 4
	holdCheck(t, history(t, same, at{1, 4}, at{0, 5}), fault(0, when))
}

// TestBusyCallsHaveNoEntry: they are passed over, wherever they lie among those of their thread.
func TestBusyCallsHaveNoEntry(t *testing.T) {
	h := three(t)
	for i := range 4 {
		for _, end := range []int{0, 3, math.MaxInt} {
			b := call(i%2, poll(), 11, end)
			b.Result = refused()
			holdCheck(t, but(h, func(h *play.History) { h.Calls = slices.Insert(h.Calls, i, b, b) }), right)
		}
	}
	only := call(0, poll(), 0, 5)
	only.Result = refused()
	holdCheck(t, play.History{Calls: []play.Call{only}}, right)
	entry := front.Applied{Op: poll(), Result: empty()}
	holdCheck(t, play.History{Calls: []play.Call{only}, Applied: []front.Applied{entry}}, fault(0, whose))
}

// TestBusyThatHasNotEnded is not a Busy call: what it has as its result is not its answer.
func TestBusyThatHasNotEnded(t *testing.T) {
	for _, end := range []int{-1, -2, math.MinInt} {
		c := call(0, poll(), 0, end)
		c.Result = refused()
		entry := front.Applied{Op: poll(), Result: empty()}
		holdCheck(t, play.History{Calls: []play.Call{c}}, right)
		holdCheck(t, play.History{Calls: []play.Call{c}, Applied: []front.Applied{entry}}, right)
		next := call(0, submit(1), 1, 5)
		holdCheck(t, history(t, []play.Call{c, next}, at{1, 0}), fault(0, whose))
	}
}

// Rule 2

func TestClockWithinTheCall(t *testing.T) {
	for _, c := range []struct {
		from, to int64
		end      int
		clock    int64
		rule     byte
	}{
		{5, 9, 3, 5, 0}, {5, 9, 3, 7, 0}, {5, 9, 3, 9, 0},
		{5, 9, 3, 4, when}, {5, 9, 3, 10, when}, {5, 9, 3, 0, when}, {5, 9, 3, math.MaxInt64, when},
		{5, 5, 3, 5, 0}, {5, 5, 3, 4, when}, {5, 5, 3, 6, when},
		{5, 9, 0, 10, when}, {5, 0, -1, 10, 0}, {5, 9, -1, 10, 0}, {5, 9, -1, math.MaxInt64, 0},
		{5, 0, -1, 5, 0}, {5, 0, -1, 4, when}, {5, 9, math.MinInt, 10, 0}, {5, 9, math.MinInt, 4, when},
		{9, 5, 3, 5, when}, {9, 5, 3, 9, when}, {9, 5, 3, 7, when}, {9, 5, -1, 9, 0},
		{math.MinInt64, math.MaxInt64, 3, 0, 0}, {math.MinInt64, math.MaxInt64, 3, math.MaxInt64, 0},
		{math.MaxInt64, math.MaxInt64, 3, math.MaxInt64, 0}, {math.MaxInt64, math.MaxInt64, 3, math.MaxInt64 - 1, when},
	} {
		one := call(0, poll(), 0, c.end)
		one.From, one.To = c.from, c.to
		want := right
		if c.rule != 0 {
			want = fault(0, c.rule)
		}
		holdCheck(t, history(t, []play.Call{one}, at{0, c.clock}), want)
	}
	h := three(t)
	for i := range h.Applied {
		holdCheck(t, but(h, func(h *play.History) { h.Calls[i].From = h.Applied[i].Clock + 1 }), fault(i, when))
		holdCheck(t, but(h, func(h *play.History) { h.Calls[i].To = h.Applied[i].Clock - 1 }), fault(i, when))
	}
}

// Rule 3

// wide has calls that last all the time, also before 0.
func wide(n int) []play.Call {
	var calls []play.Call
	for i := range n {
		c := call(i, poll(), 0, 9)
		c.From = math.MinInt64
		calls = append(calls, c)
	}
	return calls
}

func TestClockDoesNotDecrease(t *testing.T) {
	for _, c := range []struct {
		clocks []int64
		want   lin.Fault
	}{
		{[]int64{0}, right},
		{[]int64{-1}, fault(0, clock)},
		{[]int64{math.MinInt64}, fault(0, clock)},
		{[]int64{5, 5, 5}, right},
		{[]int64{5, 4}, fault(1, clock)},
		{[]int64{0, -1}, fault(1, clock)},
		{[]int64{5, 6, 5}, fault(2, clock)},
		{[]int64{5, 9, 8, 9}, fault(2, clock)},
		{[]int64{0, 1, math.MaxInt64, math.MaxInt64}, right},
		{[]int64{0, math.MaxInt64, math.MaxInt64 - 1}, fault(2, clock)},
	} {
		var entries []at
		for i, now := range c.clocks {
			entries = append(entries, at{i, now})
		}
		holdCheck(t, history(t, wide(len(entries)), entries...), c.want)
	}
}

// Rule 4

// changesOfResult has a result with one field otherwise each.
func changesOfResult(r core.Result) []core.Result {
	others := []core.Result{r, r, r, r, r, r}
	others[0].Answer += 2
	others[1].Answer = 0
	others[2].Ticket++
	others[3].Tier++
	others[4].Cohort--
	others[5].Sojourn++
	return others
}

func TestResultsOfEntriesAndCalls(t *testing.T) {
	h := three(t)
	for i := range h.Applied {
		for _, r := range changesOfResult(h.Applied[i].Result) {
			entry := but(h, func(h *play.History) { h.Applied[i].Result = r })
			holdCheck(t, entry, fault(i, answer))
			holdCheck(t, but(h, func(h *play.History) { h.Calls[i].Result = r }), fault(i, answer))
			// Though they agree with each other, they don't with the core.
			holdCheck(t, but(entry, func(h *play.History) { h.Calls[i].Result = r }), fault(i, answer))
			open := but(h, func(h *play.History) { h.Calls[i].End, h.Calls[i].Result = -1, r })
			holdCheck(t, open, right)
			holdCheck(t, but(open, func(h *play.History) { h.Applied[i].Result = r }), fault(i, answer))
		}
	}
}

// TestResultsHangOnAllEntries: on those of calls that have not ended too, on their order and on their times.
func TestResultsHangOnAllEntries(t *testing.T) {
	calls := []play.Call{call(0, submit(1), 0, -1), call(1, submit(2), 1, 50), call(2, poll(), 2, 50), call(3, poll(), 3, 50)}
	h := history(t, calls, at{0, 0}, at{1, 1}, at{2, 2}, at{3, 3})
	holdCheck(t, h, right)
	without := func(i int) play.History {
		return but(h, func(h *play.History) { h.Applied = slices.Delete(h.Applied, i, i+1) })
	}
	swapped := func(i int) play.History {
		return but(h, func(h *play.History) {
			h.Applied[i], h.Applied[i+1] = h.Applied[i+1], h.Applied[i]
			h.Applied[i].Clock, h.Applied[i+1].Clock = h.Applied[i+1].Clock, h.Applied[i].Clock
		})
	}
	holdCheck(t, without(0), fault(0, answer))
	holdCheck(t, without(1), fault(2, answer))
	holdCheck(t, without(2), fault(2, answer))
	holdCheck(t, swapped(0), fault(0, answer))
	holdCheck(t, swapped(1), fault(1, answer))
	holdCheck(t, swapped(2), fault(2, answer))
	holdCheck(t, but(h, func(h *play.History) { h.Applied[0].Clock = 1 }), fault(2, answer)) // its Sojourn
	holdCheck(t, but(h, func(h *play.History) { h.Applied[3].Clock = 4 }), fault(3, answer))
}

func TestResultsHangOnTheConfiguration(t *testing.T) {
	calls := []play.Call{call(0, submit(1), 0, 50), call(1, submit(1), 1, 50)}
	h := history(t, calls, at{0, 0}, at{1, 1})
	holdCheckOf(t, sized(4, 2), h, right)
	holdCheckOf(t, sized(4, 1), h, fault(1, answer))
	holdCheckOf(t, sized(1, 9), h, fault(0, answer))
}

// Rule 5

func TestOrderOfCalls(t *testing.T) {
	for _, c := range []struct{ begin, end, otherBegin, otherEnd, want int }{
		{10, 20, 0, 9, 1},
		{10, 20, 0, 10, -1},
		{10, 20, 0, 11, -1},
		{10, 20, 15, 30, -1},
		{10, 20, 0, 0, 1},
		{1, 20, 0, 0, 1},
		{0, 20, 0, 0, -1},
		{-5, 20, -9, 0, -1},
		{10, -1, 0, 9, 1},
		{10, math.MinInt, 0, 9, 1},
		{10, 20, 0, -1, -1},
		{10, 20, 0, math.MinInt, -1},
		{10, 5, 0, 9, 1}, // it began after the other one's end, whenever it ended
		{math.MaxInt, math.MaxInt, 0, math.MaxInt, -1},
		{math.MaxInt, math.MaxInt, 0, math.MaxInt - 1, 1},
	} {
		calls := []play.Call{call(0, poll(), c.begin, c.end), call(1, poll(), c.otherBegin, c.otherEnd)}
		want := right
		if c.want >= 0 {
			want = fault(c.want, order)
		}
		holdCheck(t, history(t, calls, at{0, 0}, at{1, 0}), want)
	}
}

// TestEachCallBeforeItsOwnEnd: of an entry's own call nothing is asked, only of those of earlier entries.
func TestEachCallBeforeItsOwnEnd(t *testing.T) {
	holdCheck(t, history(t, []play.Call{call(0, poll(), 9, 3)}, at{0, 0}), right)
}

// TestOrderOfAllEarlierEntries: not only of the one before.
func TestOrderOfAllEarlierEntries(t *testing.T) {
	calls := []play.Call{call(0, poll(), 10, 20), call(1, poll(), 0, 15), call(2, poll(), 2, -1), call(3, poll(), 0, 9)}
	holdCheck(t, history(t, calls, at{0, 0}, at{1, 0}, at{2, 0}, at{3, 0}), fault(3, order))
	holdCheck(t, history(t, calls, at{3, 0}, at{0, 0}, at{1, 0}, at{2, 0}), right)
	holdCheck(t, history(t, calls, at{1, 0}, at{2, 0}, at{3, 0}, at{0, 0}), right)
}

// Rule 6

func TestLostCalls(t *testing.T) {
	calls := []play.Call{call(0, poll(), 0, -1), call(1, poll(), 1, 0), call(2, poll(), 2, math.MaxInt), call(3, poll(), 3, -1)}
	for _, c := range []struct {
		entries []at
		want    lin.Fault
	}{
		{nil, fault(1, lost)},
		{[]at{{0, 0}, {3, 0}}, fault(1, lost)},
		{[]at{{1, 0}}, fault(2, lost)},
		{[]at{{2, 0}}, fault(1, lost)},
		{[]at{{1, 0}, {2, 0}}, right},
		{[]at{{1, 0}, {3, 0}, {0, 0}, {2, 0}}, right},
	} {
		h := history(t, calls, c.entries...)
		for i := range h.Calls {
			if h.Calls[i].End >= 0 {
				h.Calls[i].Result = empty()
			}
			h.Calls[i].Begin = 0
		}
		holdCheck(t, h, c.want)
	}
}

// TestCallsWithoutAnEntryAreTheLastOnes of their thread, since entries belong to the first ones.
func TestCallsWithoutAnEntryAreTheLastOnes(t *testing.T) {
	calls := []play.Call{call(1, poll(), 0, 5), call(1, poll(), 6, 8), call(1, poll(), 9, 12), call(0, poll(), 13, 15)}
	for i := range calls {
		calls[i].Result = empty()
	}
	h := play.History{Calls: calls}
	for n := range 4 {
		holdCheck(t, h, fault(n%3, lost))
		if n == 2 {
			break
		}
		h.Applied = append(h.Applied, front.Applied{Thread: 1, Op: poll(), Result: empty()})
	}
}

// Of several faults

func TestFirstEntryThatViolates(t *testing.T) {
	h := three(t)
	spoils := []func(h *play.History, i int){
		func(h *play.History, i int) { h.Applied[i].Thread = 9 },
		func(h *play.History, i int) { h.Calls[i].To = -9 },
		func(h *play.History, i int) { h.Applied[i].Clock = -1; h.Calls[i].From = -1 },
		func(h *play.History, i int) { h.Applied[i].Result.Answer = 77 },
		func(h *play.History, i int) { h.Calls[i].End, h.Calls[0].Begin = 0, 1 },
	}
	for first, spoil := range spoils {
		for second, other := range spoils {
			got := but(h, func(h *play.History) { other(h, 2); spoil(h, 1) })
			holdCheck(t, got, fault(1, byte(first+1)))
			got = but(h, func(h *play.History) { spoil(h, 1); other(h, 1) })
			holdCheck(t, got, fault(1, byte(min(first, second)+1)))
			got = but(got, func(h *play.History) { h.Calls = slices.Insert(h.Calls, 2, call(4, poll(), 0, 99)) })
			holdCheck(t, got, fault(1, byte(min(first, second)+1))) // rather than lost
		}
	}
}

// TestIndexOfALostCallIsThatOfCalls, while the other faults have that of the entry.
func TestIndexOfALostCallIsThatOfCalls(t *testing.T) {
	calls := []play.Call{call(0, poll(), 0, -1), call(1, poll(), 0, -1), call(2, poll(), 0, 5), call(3, poll(), 0, 5)}
	h := history(t, calls, at{3, 0})
	holdCheck(t, h, fault(2, lost))
	holdCheck(t, but(h, func(h *play.History) { h.Applied[0].Result.Ticket = 1 }), fault(0, answer))
}
