package tally_test

import (
	"math"
	"math/rand"
	"slices"
	"testing"

	"overfall/api"
	"overfall/tally"
)

// outcome has something of its own in each field.
func outcome(ticket uint64, tier int, why byte, sojourn int64) tally.Outcome {
	return tally.Outcome{Ticket: ticket, Tier: tier, Cohort: int(ticket%90) + 1, Why: why, At: int64(ticket) + 1000, Sojourn: sojourn}
}

func logOf(outcomes ...tally.Outcome) *tally.Log {
	l := tally.New()
	for _, o := range outcomes {
		l.Add(o)
	}
	return l
}

// few has several of each kind, among them tiers and reasons that no controller gives.
func few() []tally.Outcome {
	return []tally.Outcome{
		outcome(4, 1, tally.Out, 5),
		outcome(2, 0, tally.Late, 90),
		outcome(9, 1, tally.Cut, 3),
		outcome(1, 3, tally.Out, -8),
		outcome(4, 1, tally.Out, 5),
		outcome(7, 0, tally.Full, 1),
		outcome(8, 7, tally.Codel, 2),
		outcome(6, 0, tally.Drain, 0),
		outcome(5, 1, tally.Out, 16),
		outcome(3, 1, tally.Late, 700),
		outcome(0, 0, 0, 4),
		outcome(math.MaxUint64, -2, 255, 4),
		outcome(11, -1, tally.Out, 1),
		outcome(12, math.MaxInt, 7, 1),
		outcome(13, math.MinInt, tally.Out, 2),
	}
}

func someTiers() []int {
	return []int{math.MinInt, -2, -1, 0, 1, 2, 3, 4, 7, api.MaxTiers, 1 << 32, math.MaxInt}
}

func meant(o tally.Outcome, tier int, why byte) bool {
	return (tier < 0 || o.Tier == tier) && (why == 0 || o.Why == why)
}

// matching restates who is counted: in tests a loop over the list alone.
func matching(outcomes []tally.Outcome, tier int, why byte) []tally.Outcome {
	var those []tally.Outcome
	for _, o := range outcomes {
		if meant(o, tier, why) {
			those = append(those, o)
		}
	}
	return those
}

// spread restates P15.2 by the classes' bounds.
func spread(outcomes []tally.Outcome, tier int) []int {
	counts := make([]int, 64)
	last := -1
	for _, o := range matching(outcomes, tier, tally.Out) {
		class := 0
		for s := max(o.Sojourn, 0); s > 0; s /= 2 {
			class++
		}
		counts[class]++
		last = max(last, class)
	}
	return counts[:last+1]
}

func longest(outcomes []tally.Outcome, tier int) (int64, bool) {
	var sojourns []int64
	for _, o := range matching(outcomes, tier, tally.Out) {
		sojourns = append(sojourns, o.Sojourn)
	}
	if sojourns == nil {
		return 0, false
	}
	return slices.Max(sojourns), true
}

// same holds a log's every answer against the outcomes that it should have, twice, since asking changes nothing.
func same(t *testing.T, l *tally.Log, outcomes []tally.Outcome) {
	t.Helper()
	for range 2 {
		sameList(t, l, outcomes)
		for _, tier := range someTiers() {
			sameTier(t, l, outcomes, tier)
		}
	}
}

func sameList(t *testing.T, l *tally.Log, outcomes []tally.Outcome) {
	t.Helper()
	if l.Len() != len(outcomes) {
		t.Fatalf("Len is %d, not %d", l.Len(), len(outcomes))
	}
	for _, n := range []int{math.MinInt, -1, 0, 1, 2, len(outcomes) / 2, len(outcomes) - 1, len(outcomes)} {
		if got := l.Since(n); !slices.Equal(got, outcomes[min(max(n, 0), len(outcomes)):]) {
			t.Fatalf("Since(%d) is %v", n, got)
		}
	}
	for _, n := range []int{len(outcomes) + 1, 1 << 32, math.MaxInt} {
		if got := l.Since(n); len(got) != 0 {
			t.Fatalf("Since(%d), beyond the end, is %v", n, got)
		}
	}
	for _, why := range []byte{0, 1, 2, 3, 4, 5, 6, 7, 8, 254, 255} {
		if got, want := slices.Collect(l.All(why)), matching(outcomes, -1, why); !slices.Equal(got, want) {
			t.Fatalf("All(%d) is %v, not %v", why, got, want)
		}
	}
}

func sameTier(t *testing.T, l *tally.Log, outcomes []tally.Outcome, tier int) {
	t.Helper()
	for _, why := range []byte{0, 1, 2, 3, 4, 5, 6, 7, 8, 254, 255} {
		if got, want := l.Count(tier, why), len(matching(outcomes, tier, why)); got != want {
			t.Fatalf("Count(%d, %d) is %d, not %d", tier, why, got, want)
		}
	}
	if got, want := l.Spread(tier), spread(outcomes, tier); !slices.Equal(got, want) {
		t.Fatalf("Spread(%d) is %v, not %v", tier, got, want)
	}
	got, ok := l.Longest(tier)
	if want, found := longest(outcomes, tier); got != want || ok != found {
		t.Fatalf("Longest(%d) is %d, %v, not %d, %v", tier, got, ok, want, found)
	}
}

// P15.1

func TestReasons(t *testing.T) {
	reasons := []byte{tally.Out, tally.Late, tally.Cut, tally.Full, tally.Codel, tally.Drain}
	if !slices.Equal(reasons, []byte{1, 2, 3, 4, 5, 6}) {
		t.Error("reasons:", reasons)
	}
}

func TestEmptyLog(t *testing.T) {
	same(t, tally.New(), nil)
}

func TestAddedInOrder(t *testing.T) {
	l := tally.New()
	outcomes := few()
	for n, o := range outcomes {
		l.Add(o)
		same(t, l, outcomes[:n+1])
	}
}

func TestSince(t *testing.T) {
	outcomes := few()
	l := logOf(outcomes...)
	for n := range outcomes {
		if got := l.Since(n); !slices.Equal(got, outcomes[n:]) {
			t.Errorf("Since(%d): %v", n, got)
		}
	}
	if got := l.Since(len(outcomes)); len(got) != 0 {
		t.Error("Since the end:", got)
	}
	if got := l.Since(-1); !slices.Equal(got, outcomes) {
		t.Error("Since(-1):", got)
	}
}

func TestCount(t *testing.T) {
	l := logOf(few()...)
	for _, c := range []struct {
		tier int
		why  byte
		want int
	}{
		{-1, 0, 15}, {math.MinInt, 0, 15}, {-2, 0, 15}, {-1, tally.Out, 6}, {-2, tally.Out, 6}, {-1, tally.Late, 2}, {-1, 255, 1}, {-1, 9, 0},
		{1, 0, 5}, {1, tally.Out, 3}, {1, tally.Cut, 1}, {1, tally.Late, 1}, {1, tally.Drain, 0},
		{0, 0, 4}, {0, tally.Out, 0}, {0, tally.Drain, 1}, {7, tally.Codel, 1}, {2, 0, 0}, {math.MaxInt, 0, 1}, {math.MaxInt, 7, 1}, {8, 0, 0},
	} {
		if got := l.Count(c.tier, c.why); got != c.want {
			t.Errorf("Count(%d, %d) is %d, not %d", c.tier, c.why, got, c.want)
		}
	}
}

func TestAllEndsEarly(t *testing.T) {
	outcomes := few()
	l := logOf(outcomes...)
	for _, why := range []byte{0, tally.Out, tally.Late} {
		want := matching(outcomes, -1, why)
		for n := range want {
			var got []tally.Outcome
			for o := range l.All(why) {
				got = append(got, o)
				if len(got) == n+1 {
					break
				}
			}
			if !slices.Equal(got, want[:n+1]) {
				t.Errorf("the first %d of All(%d): %v", n+1, why, got)
			}
		}
	}
	same(t, l, outcomes)
}

func TestAllFromTheStartEachTime(t *testing.T) {
	l := logOf(few()...)
	all := l.All(tally.Out)
	for range all {
		break
	}
	want := matching(few(), -1, tally.Out)
	for range 2 {
		if got := slices.Collect(all); !slices.Equal(got, want) {
			t.Error("a second iteration:", got)
		}
	}
	pairs := 0
	for range all {
		for range all {
			pairs++
		}
	}
	if pairs != len(want)*len(want) {
		t.Error("one iteration within the other:", pairs)
	}
}

// TestAllWhileAdding: as many are yielded as there are when each one is requested.
func TestAllWhileAdding(t *testing.T) {
	l := tally.New()
	all := l.All(0)
	late := l.All(tally.Late)
	l.Add(outcome(1, 0, tally.Out, 1))
	var tickets []uint64
	for o := range all {
		tickets = append(tickets, o.Ticket)
		if o.Ticket < 100 {
			l.Add(outcome(o.Ticket+1, 0, byte(o.Ticket%2)+1, 1))
		}
	}
	if len(tickets) != 100 || tickets[0] != 1 || tickets[99] != 100 || !slices.IsSorted(tickets) {
		t.Error("tickets, each added while the one before was yielded:", tickets)
	}
	count := 0
	for o := range late {
		if o.Ticket == 100 {
			l.Add(outcome(200, 0, tally.Out, 1))
			l.Add(outcome(201, 0, tally.Late, 1))
		}
		count++
	}
	if count != 51 {
		t.Error("late ones, the last two of them added at last:", count)
	}
}

func TestAllOnceItHasEnded(t *testing.T) {
	l := logOf(outcome(1, 0, tally.Out, 1))
	all := l.All(0)
	if n := len(slices.Collect(all)); n != 1 {
		t.Error(n, "of 1")
	}
	l.Add(outcome(2, 0, tally.Out, 1))
	if n := len(slices.Collect(all)); n != 2 {
		t.Error(n, "of 2")
	}
}

func TestSinceIsNewMemory(t *testing.T) {
	outcomes := few()
	l := logOf(outcomes...)
	first, second := l.Since(-1), l.Since(0)
	for _, got := range [][]tally.Outcome{first, l.Since(3), l.Since(len(outcomes))} {
		for n := range got[:cap(got)] {
			got[:cap(got)][n] = tally.Outcome{Ticket: 77}
		}
		_ = append(got, tally.Outcome{Ticket: 78})
	}
	if !slices.Equal(second, outcomes) {
		t.Error("an earlier result has changed")
	}
	same(t, l, outcomes)
	l.Add(outcome(50, 2, tally.Cut, 9))
	same(t, l, append(outcomes, outcome(50, 2, tally.Cut, 9)))
	if !slices.Equal(second, outcomes) {
		t.Error("Add has changed an earlier result")
	}
}

// P15.2

func TestSpread(t *testing.T) {
	l := logOf(outcome(1, 0, tally.Out, 5))
	if got := l.Spread(0); !slices.Equal(got, []int{0, 0, 0, 1}) {
		t.Error("the chapter's example:", got)
	}
	if got := l.Spread(1); len(got) != 0 {
		t.Error("the tier beside:", got)
	}
	if got := l.Spread(-1); !slices.Equal(got, []int{0, 0, 0, 1}) {
		t.Error("all tiers:", got)
	}
}

func TestSpreadBounds(t *testing.T) {
	check := func(sojourn int64, class int) {
		t.Helper()
		want := make([]int, class+1)
		want[class] = 1
		if got := logOf(outcome(1, 2, tally.Out, sojourn)).Spread(2); !slices.Equal(got, want) {
			t.Errorf("a Sojourn of %d: %v, not class %d", sojourn, got, class)
		}
	}
	for _, sojourn := range []int64{0, -1, -2, -8, math.MinInt32, math.MinInt64 + 1, math.MinInt64} {
		check(sojourn, 0)
	}
	check(1, 1)
	for class := 2; class <= 63; class++ {
		from := int64(1) << (class - 1)
		check(from, class)
		check(from+from/2, class)
		check(from+(from-1), class)
	}
}

func TestSpreadCounts(t *testing.T) {
	l := tally.New()
	for sojourn := int64(-3); sojourn <= 40; sojourn++ {
		l.Add(outcome(uint64(sojourn+3), 1, tally.Out, sojourn))
		l.Add(outcome(uint64(sojourn+3), 1, tally.Late, sojourn+1000))
	}
	if got := l.Spread(1); !slices.Equal(got, []int{4, 1, 2, 4, 8, 16, 9}) {
		t.Error(got)
	}
	l.Add(outcome(100, 2, tally.Out, 0))
	if got := l.Spread(2); !slices.Equal(got, []int{1}) {
		t.Error("the first class alone:", got)
	}
	if got := l.Spread(-1); !slices.Equal(got, []int{5, 1, 2, 4, 8, 16, 9}) {
		t.Error("both tiers:", got)
	}
}

func TestOnlyDispatchedOnesAreMeasured(t *testing.T) {
	for _, why := range []byte{0, 2, 3, 4, 5, 6, 7, 255} {
		l := logOf(outcome(1, 1, why, 5))
		for _, tier := range []int{-1, 0, 1} {
			if got := l.Spread(tier); len(got) != 0 {
				t.Errorf("reason %d: %v", why, got)
			}
			if got, ok := l.Longest(tier); got != 0 || ok {
				t.Errorf("reason %d: %d, %v", why, got, ok)
			}
		}
	}
}

func TestLongest(t *testing.T) {
	l := logOf(few()...)
	for _, c := range []struct {
		tier int
		want int64
		ok   bool
	}{
		{1, 16, true}, {3, -8, true}, {-1, 16, true}, {-7, 16, true}, {math.MinInt, 16, true}, {0, 0, false}, {2, 0, false}, {math.MaxInt, 0, false},
	} {
		if got, ok := l.Longest(c.tier); got != c.want || ok != c.ok {
			t.Errorf("Longest(%d) is %d, %v, not %d, %v", c.tier, got, ok, c.want, c.ok)
		}
	}
	l.Add(outcome(1, 3, tally.Out, math.MinInt64))
	if got, ok := l.Longest(3); got != -8 || !ok {
		t.Error("the larger one of two below 0:", got, ok)
	}
	l.Add(outcome(1, 0, tally.Out, math.MinInt64))
	if got, ok := l.Longest(0); got != math.MinInt64 || !ok {
		t.Error("the least Sojourn of all:", got, ok)
	}
	l.Add(outcome(1, 3, tally.Out, math.MaxInt64))
	if got, ok := l.Longest(-1); got != math.MaxInt64 || !ok {
		t.Error("the largest Sojourn of all:", got, ok)
	}
}

func TestCopy(t *testing.T) {
	outcomes := few()
	l := logOf(outcomes...)
	c := l.Copy()
	if c == l {
		t.Fatal("the log itself")
	}
	same(t, c, outcomes)
	ours, theirs := outcome(60, 1, tally.Out, 999), outcome(61, 1, tally.Out, 998)
	l.Add(ours)
	c.Add(theirs)
	c.Add(ours)
	same(t, l, append(slices.Clone(outcomes), ours))
	same(t, c, append(slices.Clone(outcomes), theirs, ours))
	same(t, c.Copy(), append(slices.Clone(outcomes), theirs, ours))
	empty := tally.New().Copy()
	same(t, empty, nil)
	empty.Add(ours)
	same(t, empty, []tally.Outcome{ours})
}

// TestCopiesOfAnyLength: the copy is independent whatever spare memory the log has.
func TestCopiesOfAnyLength(t *testing.T) {
	l := tally.New()
	var outcomes []tally.Outcome
	for n := range 40 {
		c := l.Copy()
		c.Add(outcome(500, 1, tally.Cut, 1))
		l.Add(outcome(uint64(n), 0, tally.Out, 1))
		outcomes = append(outcomes, outcome(uint64(n), 0, tally.Out, 1))
		if got := l.Since(0); !slices.Equal(got, outcomes) {
			t.Fatalf("after %d: %v", n, got)
		}
		if got := c.Since(n); len(got) != 1 || got[0].Ticket != 500 {
			t.Fatalf("the copy of %d: %v", n, got)
		}
	}
}

func TestNilLog(t *testing.T) {
	var l *tally.Log
	l.Add(outcome(1, 0, tally.Out, 5))
	same(t, l, nil)
	if c := l.Copy(); c != nil {
		t.Error("a copy of nil:", c)
	}
	if l.All(0) == nil || l.All(tally.Out) == nil {
		t.Error("a nil iterator")
	}
}

// TestRandomLogs compares with the lists alone, each log twice by the same calls (P2).
func TestRandomLogs(t *testing.T) {
	random := rand.New(rand.NewSource(15))
	for range 60 {
		l, again := tally.New(), tally.New()
		var outcomes []tally.Outcome
		for range random.Intn(60) {
			o := outcome(random.Uint64(), random.Intn(10)-1, byte(random.Intn(8)), int64(random.Uint64())>>random.Intn(64))
			o.At = int64(random.Uint64())
			l.Add(o)
			again.Add(o)
			outcomes = append(outcomes, o)
		}
		same(t, l, outcomes)
		same(t, again, outcomes)
		same(t, l.Copy(), outcomes)
	}
}
