package pace_test

import (
	"math"
	"math/big"
	"math/rand"
	"slices"
	"testing"

	"overfall/core"
	"overfall/pace"
	"overfall/play"
)

// picks has a Pick of each thread that is named, in order.
func picks(threads ...int) []play.Item {
	var items []play.Item
	for _, thread := range threads {
		items = append(items, play.Item{Kind: play.Pick, Thread: thread})
	}
	return items
}

func start(thread int) []play.Item {
	return []play.Item{{Kind: play.Start, Thread: thread, Op: core.Op{Kind: core.Poll}}}
}

func tick(n int64) []play.Item { return []play.Item{{Kind: play.Tick, N: n}} }

// other is an item without effect.
func other(kind byte, thread int) []play.Item {
	return []play.Item{{Kind: kind, Thread: thread, N: 5}}
}

func script(parts ...[]play.Item) []play.Item { return slices.Concat(parts...) }

func call(thread, begin, end int) play.Call {
	return play.Call{Thread: thread, Begin: begin, End: end}
}

func history(calls ...play.Call) play.History { return play.History{Calls: calls} }

// ofWaits is the largest one, plus 1, and 1 if there are none.
func ofWaits(waits []int) int { return slices.Max(append([]int{0}, waits...)) + 1 }

// holdWaits also holds what follows from the Waits of a single call.
func holdWaits(t *testing.T, items []play.Item, c play.Call, longest int, want ...int) {
	t.Helper()
	if got := pace.Waits(items, c); !slices.Equal(got, want) {
		t.Errorf("the Waits are %v, not %v, for %+v in %+v", got, want, c, items)
	}
	if got := pace.Longest(items, history(c)); got != longest {
		t.Errorf("the Longest is %d, not %d, for %+v in %+v", got, longest, c, items)
	}
	if got := pace.Fair(items, history(c)); got != ofWaits(want) {
		t.Errorf("it is Fair by %d, not %d, for %+v in %+v", got, ofWaits(want), c, items)
	}
}

func TestExample(t *testing.T) {
	items := script(start(0), picks(0, 1, 1, 0))
	holdWaits(t, items, call(0, 0, -1), 4, 0, 2, 0)
	h := history(call(0, 0, -1))
	if fair, longest := pace.Fair(items, h), pace.Longest(items, h); fair != 3 || longest != 4 {
		t.Error(fair, longest)
	}
}

// P23.1

func TestWaits(t *testing.T) {
	items := script(start(0), picks(1, 1, 0, 1, 0, 0, 2, 1, 3, 0, 1, 1)) // 0 is picked at 3, 5, 6 and 10
	holdWaits(t, items, call(0, 0, -1), 12, 2, 1, 0, 3, 2)
	holdWaits(t, items, call(0, 0, 10), 10, 2, 1, 0, 3)
	holdWaits(t, items, call(0, 0, 6), 6, 2, 1, 0)
	holdWaits(t, items, call(0, 0, 3), 3, 2)
	holdWaits(t, items, call(1, 0, -1), 12, 0, 0, 1, 3, 2, 0, 0)
	holdWaits(t, items, call(3, 0, -1), 12, 8, 3)
	holdWaits(t, items, call(3, 0, 9), 9, 8)
	holdWaits(t, items, call(4, 0, -1), 12, 12)
	holdWaits(t, items, call(-1, 0, -1), 12, 12)
}

// TestWaitsWithoutAPick: one that has not ended still has the number of all others' Picks.
func TestWaitsWithoutAPick(t *testing.T) {
	items := script(start(0), picks(1, 2, 1))
	holdWaits(t, items, call(0, 0, -1), 3, 3)
	holdWaits(t, items, call(0, 3, -1), 0, 0)
	holdWaits(t, start(0), call(0, 0, -1), 0, 0)
	holdWaits(t, items, call(0, 0, 3), 3)
	holdWaits(t, items, call(0, 3, 3), 0)
	holdWaits(t, start(0), call(0, 0, 0), 0)
}

// TestOthersAfterTheLastPick do not count for a call that has ended, also if it did so without a Pick of its own.
func TestOthersAfterTheLastPick(t *testing.T) {
	items := script(start(0), picks(1, 0, 1, 1, 1, 1, 0))
	holdWaits(t, items, call(0, 0, 6), 6, 1)
	holdWaits(t, items, call(0, 0, 7), 7, 1, 4)
	holdWaits(t, items, call(0, 0, -1), 7, 1, 4, 0)
}

func TestBeginThatIsNoIndex(t *testing.T) {
	items := script(start(0), picks(1, 0, 1))
	for _, begin := range []int{-1, -2, math.MinInt, 4, 5, math.MaxInt} {
		for _, end := range []int{-1, 0, 1, 3, 4, 99, math.MaxInt, math.MinInt} {
			holdWaits(t, items, call(0, begin, end), 0)
			holdWaits(t, nil, call(0, begin, end), 0)
		}
	}
	for _, end := range []int{-1, 0, 5} {
		holdWaits(t, nil, call(0, 0, end), 0)
		holdWaits(t, []play.Item{}, call(0, 0, end), 0)
	}
}

// TestEndThatIsNoIndex: there are no more items than there are; and none lies before the beginning and after it too.
func TestEndThatIsNoIndex(t *testing.T) {
	items := script(start(0), picks(1, 0, 1, 1))
	for _, end := range []int{4, 5, 6, 1000, math.MaxInt} {
		holdWaits(t, items, call(0, 0, end), 4, 1)
		holdWaits(t, items, call(0, 4, end), 0)
	}
	for _, end := range []int{-1, -2, math.MinInt} {
		holdWaits(t, items, call(0, 0, end), 4, 1, 2)
		holdWaits(t, items, call(0, 4, end), 0, 0)
	}
	for end := range 3 {
		holdWaits(t, items, call(0, 3, end), 0)
		holdWaits(t, items, call(0, 2, end), 0)
	}
}

// TestItemOfTheBeginning is none of the call's, whatever it is; that of the end is one.
func TestItemOfTheBeginning(t *testing.T) {
	items := picks(0, 1, 0, 1, 0)
	holdWaits(t, items, call(0, 0, 4), 4, 1, 1)
	holdWaits(t, items, call(0, 0, 3), 3, 1)
	holdWaits(t, items, call(0, 1, 2), 1, 0)
	holdWaits(t, items, call(1, 0, -1), 4, 0, 1, 1)
	holdWaits(t, items, call(0, 2, -1), 2, 1, 0)
}

// TestOtherItemsAreNoPicks, whatever thread they have.
func TestOtherItemsAreNoPicks(t *testing.T) {
	items := script(start(0), picks(1), start(1), start(0), tick(3), picks(1, 0), other(3, 0), other(255, 1), picks(1), other(9, 0), tick(-1), picks(0))
	holdWaits(t, items, call(0, 0, -1), 5, 2, 1, 0)
	holdWaits(t, items, call(0, 0, 12), 5, 2, 1)
	holdWaits(t, items, call(0, 0, 11), 4, 2)
	holdWaits(t, items, call(1, 2, -1), 4, 0, 1, 1)
	for kind := 3; kind <= 255; kind++ {
		holdWaits(t, script(start(0), other(byte(kind), 0), picks(1), other(byte(kind), 1)), call(0, 0, -1), 1, 1)
	}
}

// TestPicksOfAnyThreads: threads that do not exist are other threads too.
func TestPicksOfAnyThreads(t *testing.T) {
	items := script(start(0), picks(-1, math.MaxInt, math.MinInt, 16, 1<<32, 0, -1, 0))
	holdWaits(t, items, call(0, 0, 8), 8, 5, 1)
	holdWaits(t, items, call(-1, 0, -1), 8, 0, 5, 1)
	holdWaits(t, items, call(math.MinInt, 0, -1), 8, 2, 5)
}

// P23.2

func TestOfNoCalls(t *testing.T) {
	for _, items := range [][]play.Item{nil, {}, picks(1, 2, 3)} {
		for _, h := range []play.History{{}, {Calls: []play.Call{}}, {Picked: []int{1, 2, 3}}} {
			if fair, longest := pace.Fair(items, h), pace.Longest(items, h); fair != 1 || longest != 0 {
				t.Error(fair, longest)
			}
		}
	}
}

// TestOfSeveralCalls: it is the largest one, wherever it lies.
func TestOfSeveralCalls(t *testing.T) {
	items := script(start(0), start(1), picks(1, 1, 1, 0, 2, 2, 0, 2, 2, 2, 2, 2, 1, 0))
	calls := []play.Call{call(0, 0, 8), call(1, 1, -1), call(2, 5, -1), call(9, -1, -1), call(9, 99, 3)}
	waits := [][]int{{3, 2}, {0, 0, 0, 9, 1}, {0, 0, 1, 0, 0, 0, 0, 2}, nil, nil}
	longest := []int{7, 14, 10, 0, 0}
	for i, c := range calls {
		holdWaits(t, items, c, longest[i], waits[i]...)
		for j, d := range calls {
			fair, picks := pace.Fair(items, history(c, d)), pace.Longest(items, history(c, d))
			if fair != max(ofWaits(waits[i]), ofWaits(waits[j])) || picks != max(longest[i], longest[j]) {
				t.Errorf("%d, %d, for %+v and %+v", fair, picks, c, d)
			}
		}
	}
	if fair, picks := pace.Fair(items, history(calls...)), pace.Longest(items, history(calls...)); fair != 10 || picks != 14 {
		t.Error(fair, picks)
	}
}

func saturated(n *big.Int) int64 {
	if n.IsInt64() {
		return n.Int64()
	}
	if n.Sign() < 0 {
		return math.MinInt64
	}
	return math.MaxInt64
}

// boundOf restates Bound by integers of any size, of which each result is saturated.
func boundOf(fair, threads int) int64 {
	perThread := saturated(new(big.Int).Mul(big.NewInt(18), big.NewInt(int64(threads))))
	steps := saturated(new(big.Int).Add(big.NewInt(perThread), big.NewInt(24)))
	return saturated(new(big.Int).Mul(big.NewInt(int64(fair)), big.NewInt(steps)))
}

func TestBound(t *testing.T) {
	for _, c := range []struct {
		fair, threads int
		want          int64
	}{
		{1, 1, 42}, {1, 4, 96}, {3, 4, 288}, {1, 16, 312}, {100, 16, 31200}, {7, 0, 168}, {0, 4, 0}, {0, math.MaxInt, 0},
		{1, -1, 6}, {1, -2, -12}, {-1, 1, -42}, {-3, -2, 36}, {-1, 0, -24},
		{1, math.MaxInt, math.MaxInt64}, {2, math.MaxInt, math.MaxInt64}, {-1, math.MaxInt, -math.MaxInt64}, {-2, math.MaxInt, math.MinInt64},
		{1, math.MinInt, math.MinInt64 + 24}, {-1, math.MinInt, math.MaxInt64 - 23}, {2, math.MinInt, math.MinInt64}, {-2, math.MinInt, math.MaxInt64},
		{math.MaxInt, 1, math.MaxInt64}, {math.MaxInt, 0, math.MaxInt64}, {math.MaxInt, -2, math.MinInt64}, {math.MinInt, 1, math.MinInt64}, {math.MinInt, -2, math.MaxInt64},
		{1, (math.MaxInt - 24) / 18, (math.MaxInt64-24)/18*18 + 24}, {1, (math.MaxInt-24)/18 + 1, math.MaxInt64}, {1, math.MaxInt/18 + 1, math.MaxInt64},
	} {
		if got := pace.Bound(c.fair, c.threads); got != c.want || boundOf(c.fair, c.threads) != c.want {
			t.Errorf("Bound(%d, %d) is %d, not %d", c.fair, c.threads, got, c.want)
		}
	}
	r := rand.New(rand.NewSource(232))
	for range 100000 {
		fair, threads := int(r.Uint64())>>r.Intn(64), int(r.Uint64())>>r.Intn(64)
		if got, want := pace.Bound(fair, threads), boundOf(fair, threads); got != want {
			t.Fatalf("Bound(%d, %d) is %d, not %d", fair, threads, got, want)
		}
	}
}

// P23.1, P23.2

// restated has the Waits and the number of Picks of a call, from the places at which its thread is picked.
func restated(items []play.Item, c play.Call) (waits []int, picked int) {
	if c.Begin < 0 || c.Begin >= len(items) {
		return nil, 0
	}
	total := 0    // of other threads' Picks
	var own []int // how many of those come before each Pick of its own
	for i := c.Begin + 1; i < len(items) && (c.End < 0 || i <= c.End); i++ {
		if items[i].Kind == 0 && items[i].Thread == c.Thread {
			own = append(own, total)
		} else if items[i].Kind == 0 {
			total++
		}
	}
	before := 0
	for _, n := range own {
		waits = append(waits, n-before)
		before = n
	}
	if c.End < 0 {
		waits = append(waits, total-before)
	}
	return waits, total + len(own)
}

func randomItems(r *rand.Rand) []play.Item {
	items := make([]play.Item, r.Intn(40))
	for i := range items {
		items[i] = play.Item{Thread: r.Intn(4) - 1}
		if r.Intn(4) == 0 {
			items[i].Kind = byte(r.Intn(256) >> r.Intn(9))
		}
	}
	return items
}

func randomIndex(r *rand.Rand, n int) int {
	switch r.Intn(12) {
	case 0:
		return int(r.Uint64()) >> r.Intn(64)
	case 1:
		return n - 1 + r.Intn(3)
	case 2:
		return -1
	}
	return r.Intn(n + 1)
}

func TestAgainstRestatement(t *testing.T) {
	r := rand.New(rand.NewSource(231))
	for range 30000 {
		items := randomItems(r)
		var h play.History
		most, longest := 0, 0
		for range r.Intn(5) {
			c := call(r.Intn(4)-1, randomIndex(r, len(items)), randomIndex(r, len(items)))
			h.Calls = append(h.Calls, c)
			waits, picked := restated(items, c)
			if got := pace.Waits(items, c); !slices.Equal(got, waits) {
				t.Fatalf("%v, not %v, for %+v in %+v", got, waits, c, items)
			}
			most, longest = max(most, ofWaits(waits)-1), max(longest, picked)
		}
		if fair, picks := pace.Fair(items, h), pace.Longest(items, h); fair != most+1 || picks != longest {
			t.Fatalf("%d, %d, not %d, %d, for %+v in %+v", fair, picks, most+1, longest, h, items)
		}
	}
}

// TestNumbersOfWaits: as many as its thread has Picks there, and one more if the call has not ended.
func TestNumbersOfWaits(t *testing.T) {
	r := rand.New(rand.NewSource(233))
	for range 5000 {
		items := randomItems(r)
		for begin := range items {
			c := call(r.Intn(4)-1, begin, -1)
			own := 0
			for _, item := range items[begin+1:] {
				if item.Kind == play.Pick && item.Thread == c.Thread {
					own++
				}
			}
			if got := pace.Waits(items, c); len(got) != own+1 {
				t.Fatalf("%v for %d Picks", got, own)
			}
			c.End = len(items) - 1
			if got := pace.Waits(items, c); len(got) != own {
				t.Fatalf("%v for %d Picks", got, own)
			}
		}
	}
}
