package pace_test

import (
	"math"
	"math/rand"
	"slices"
	"sync"
	"testing"

	"overfall/api"
	"overfall/conf"
	"overfall/core"
	"overfall/front"
	"overfall/lin"
	"overfall/pace"
	"overfall/play"
)

func sized(threads, ring int) conf.Config {
	c := conf.Default()
	c.Threads, c.Ring = threads, ring
	return c
}

// randomSize has a position in the ring for each thread.
func randomSize(r *rand.Rand) conf.Config {
	c := sized(1+r.Intn(6), 8)
	if r.Intn(3) == 0 {
		c.Threads = 1 + r.Intn(api.MaxThreads)
	}
	for c.Ring = 2; c.Ring < c.Threads; {
		c.Ring *= 2
	}
	c.Ring <<= r.Intn(3)
	return c
}

func randomOp(r *rand.Rand) core.Op {
	if r.Intn(2) == 0 {
		return core.Op{Kind: core.Poll}
	}
	return core.Op{Kind: core.Submit, Tier: r.Intn(5), N: int64(r.Intn(500))}
}

// holdBound holds P23.3, and returns how much of the bound is reached, in parts of 1000.
func holdBound(t *testing.T, c conf.Config, items []play.Item) int {
	t.Helper()
	h, e := play.Run(c, items)
	if e != api.OK {
		t.Fatal(e)
	}
	fair, longest := pace.Fair(items, h), pace.Longest(items, h)
	bound := pace.Bound(fair, c.Threads)
	if int64(longest) > bound {
		t.Fatalf("%d Picks, though the bound of %d, %d is %d", longest, fair, c.Threads, bound)
	}
	if h.Busy() != 0 {
		t.Fatal("Busy, though each thread has a position")
	}
	return int(1000 * int64(longest) / bound)
}

// P23.3, P7

// TestRandomScripts: threads run on for a while, or in turn, or not at all.
func TestRandomScripts(t *testing.T) {
	r := rand.New(rand.NewSource(7))
	for range 1500 {
		c := randomSize(r)
		stay, begins := 1+r.Intn(40), 1+r.Intn(30)
		var items []play.Item
		thread := 0
		for range r.Intn(3000) {
			if r.Intn(stay) == 0 {
				thread = r.Intn(c.Threads+2) - 1
			}
			switch {
			case r.Intn(begins) == 0:
				items = append(items, play.Item{Kind: play.Start, Thread: thread, Op: randomOp(r)})
			case r.Intn(50) == 0:
				items = append(items, tick(int64(r.Intn(9)))...)
			default:
				items = append(items, picks(thread)...)
			}
		}
		holdBound(t, c, items)
	}
}

// foe is a schedule that holds calls up as long as it may, where each thread with a call is picked in each so many Picks.
type foe struct {
	front  *front.Front
	window int
	since  []int // by thread, how many Picks ago it was picked, or began its call
	items  []play.Item
}

func (f *foe) begin(thread int, op core.Op) {
	if f.front.Begin(thread, op) == api.OK {
		f.items = append(f.items, play.Item{Kind: play.Start, Thread: thread, Op: op})
		f.since[thread] = 0
	}
}

func (f *foe) pick(thread int) {
	for other := range f.since {
		f.since[other]++
	}
	f.since[thread] = 0
	f.front.Step(thread)
	f.items = append(f.items, picks(thread)...)
}

// must returns the thread that may not be held back any longer, if there is one; several are picked one window after the other.
func (f *foe) must() (int, bool) {
	last, found := 0, false
	for thread, n := range f.since {
		if f.front.Where(thread) != front.Rest && n >= f.window-f.front.Threads() && (!found || n > f.since[last]) {
			last, found = thread, true
		}
	}
	return last, found
}

// useless is a thread whose Picks bring none of the calls forward, if there is one: it looks at its box or at the lock, or rests.
func (f *foe) useless(r *rand.Rand, victim int) (int, bool) {
	for _, thread := range r.Perm(f.front.Threads()) {
		if where := f.front.Where(thread); thread != victim && (where == front.Rest || where == front.Wait || where == front.Lock && f.owned()) {
			return thread, true
		}
	}
	return 0, false
}

// owned reports whether some thread has the lock.
func (f *foe) owned() bool {
	for thread := range f.since {
		if f.front.Where(thread) >= front.Take {
			return true
		}
	}
	return false
}

// play goes on for so many Picks; threads that rest begin new calls at once, but for the victim.
func (f *foe) play(r *rand.Rand, victim, n int) {
	for range n {
		for thread := range f.since {
			if thread != victim {
				f.begin(thread, randomOp(r))
			}
		}
		thread, ok := f.must()
		if !ok {
			thread, ok = f.useless(r, victim)
		}
		if !ok {
			thread = r.Intn(f.front.Threads())
		}
		f.pick(thread)
	}
}

// TestHostileScripts: whatever is done to hold up the calls, they keep to the bound, also while they have not ended.
func TestHostileScripts(t *testing.T) {
	r := rand.New(rand.NewSource(23))
	most := 0
	for range 400 {
		c := randomSize(r)
		k, e := front.New(c)
		if e != api.OK {
			t.Fatal(e)
		}
		f := &foe{front: k, window: 1 + r.Intn(8*c.Threads), since: make([]int, c.Threads)}
		victim := r.Intn(c.Threads)
		f.play(r, victim, r.Intn(40*c.Threads))
		f.begin(victim, randomOp(r))
		for range r.Intn(9) { // its place in the ring may be claimed before those of others
			f.pick(victim)
		}
		f.play(r, victim, r.Intn(100*c.Threads))
		most = max(most, holdBound(t, c, f.items))
	}
	if most < 300 {
		t.Error("hardly a call was held up:", most)
	}
}

// TestThreadThatIsNeverPicked: the bound grows with what its call waits, so it holds here too.
func TestThreadThatIsNeverPicked(t *testing.T) {
	for _, c := range []conf.Config{sized(2, 2), sized(3, 4), sized(api.MaxThreads, 16)} {
		for stop := range 16 {
			items := script(start(0), slices.Repeat(picks(0), stop))
			for range 400 {
				for thread := 1; thread < c.Threads; thread++ {
					items = append(items, script(start(thread), picks(thread))...)
				}
			}
			holdBound(t, c, items)
			h, _ := play.Run(c, items)
			if open := len(h.Open()); stop < 15 && (open == 0 || pace.Fair(items, h) <= 400*(c.Threads-1)) {
				t.Errorf("%d are open, it is Fair by %d", open, pace.Fair(items, h))
			}
		}
	}
}

// TestOneThread needs 13 Picks, since it serves no more calls than its own, whatever else is picked meanwhile.
func TestOneThread(t *testing.T) {
	for _, others := range []int{0, 1, 5, 100} {
		round := script(slices.Repeat(picks(3), others), picks(0))
		items := script(start(0), slices.Repeat(round, 20))
		h, _ := play.Run(sized(1, 2), items)
		if fair, longest := pace.Fair(items, h), pace.Longest(items, h); fair != others+1 || longest != 13*(others+1) {
			t.Errorf("Fair by %d, Longest %d, with %d others", fair, longest, others)
		}
		holdBound(t, sized(1, 2), items)
	}
}

// TestRoundsEndAllCalls: in rounds it is Fair by the number of threads, so the bound tells how many rounds are enough.
func TestRoundsEndAllCalls(t *testing.T) {
	r := rand.New(rand.NewSource(8))
	for range 300 {
		c := randomSize(r)
		var items []play.Item
		for thread := range c.Threads {
			items = append(items, play.Item{Kind: play.Start, Thread: thread, Op: randomOp(r)})
		}
		for range r.Intn(60) {
			items = append(items, picks(r.Intn(c.Threads))...)
		}
		rounds := int(pace.Bound(1, c.Threads))
		all, h, e := play.Finish(c, items, rounds)
		if e != api.OK || len(h.Open()) != 0 {
			t.Fatalf("%d, %v wait for ever", e, h.Open())
		}
		holdBound(t, c, all)
		if fault := lin.Check(c, h); fault.At != -1 {
			t.Fatal(lin.Name(fault.Rule))
		}
	}
}

// P1, P2

func anyNumber(r *rand.Rand) int {
	switch r.Intn(5) {
	case 0:
		return math.MinInt + r.Intn(2)
	case 1:
		return math.MaxInt - r.Intn(2)
	case 2:
		return int(r.Uint64()) >> r.Intn(64)
	}
	return r.Intn(20) - 1
}

func TestAnyScripts(t *testing.T) {
	r := rand.New(rand.NewSource(12))
	for range 20000 {
		items := make([]play.Item, r.Intn(20))
		for i := range items {
			items[i] = play.Item{Kind: byte(r.Intn(256) >> r.Intn(9)), Thread: anyNumber(r), N: int64(anyNumber(r))}
		}
		var h play.History
		for range r.Intn(6) {
			h.Calls = append(h.Calls, play.Call{Thread: anyNumber(r), Begin: anyNumber(r), End: anyNumber(r), Picks: anyNumber(r)})
		}
		most, longest := 0, 0
		for _, c := range h.Calls {
			want, picked := restated(items, c)
			got, again := pace.Waits(items, c), pace.Waits(items, c)
			if !slices.Equal(got, want) || !slices.Equal(got, again) {
				t.Fatalf("%v, then %v, not %v, for %+v in %+v", got, again, want, c, items)
			}
			most, longest = max(most, ofWaits(want)-1), max(longest, picked)
		}
		if fair, picks := pace.Fair(items, h), pace.Longest(items, h); fair != most+1 || picks != longest {
			t.Fatalf("%d, %d, not %d, %d", fair, picks, most+1, longest)
		}
	}
}

// TestLongScript has many calls, each of which is short.
func TestLongScript(t *testing.T) {
	const calls = 40000
	var items []play.Item
	var h play.History
	for n := range calls {
		h.Calls = append(h.Calls, call(n%4, len(items), len(items)+15))
		items = append(items, script(start(n%4), slices.Repeat(picks(n%4), 15))...)
	}
	if fair, longest := pace.Fair(items, h), pace.Longest(items, h); fair != 1 || longest != 15 {
		t.Error(fair, longest)
	}
}

// TestAtOnce: calls share nothing, so many goroutines may be in them.
func TestAtOnce(t *testing.T) {
	items := script(start(0), picks(0, 1, 1, 0, 2), start(1), picks(1, 0))
	h := history(call(0, 0, 8), call(1, 6, -1))
	var all sync.WaitGroup
	for range 8 {
		all.Go(func() {
			for range 1000 {
				if pace.Fair(items, h) != 3 || pace.Longest(items, h) != 7 || !slices.Equal(pace.Waits(items, h.Calls[0]), []int{0, 2, 2}) {
					t.Error("another result")
					return
				}
			}
		})
	}
	all.Wait()
}

// Memory

func TestKeepsToItsOwnMemory(t *testing.T) {
	items := script(start(0), picks(0, 1, 1, 0))
	all := script(items, picks(0, 0, 0, 1))
	h := history(call(0, 0, -1), call(1, 0, 3), call(1, 0, -1))
	before, calls := slices.Clone(all), slices.Clone(h.Calls)
	got := pace.Waits(all[:len(items)], h.Calls[0])
	pace.Fair(all[:len(items)], play.History{Calls: h.Calls[:1]})
	pace.Longest(all[:len(items)], play.History{Calls: h.Calls[:1]})
	if !slices.Equal(all, before) || !slices.Equal(h.Calls, calls) {
		t.Error("the items or the calls were changed")
	}
	again := pace.Waits(items, h.Calls[0])
	again = again[:cap(again)]
	for i := range again {
		again[i] = -7
	}
	for i := range all {
		all[i] = play.Item{Kind: 77}
	}
	if !slices.Equal(got, []int{0, 2, 0}) {
		t.Error("a result shares memory with the items or with another one:", got)
	}
}
