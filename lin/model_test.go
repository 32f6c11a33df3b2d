package lin_test

import (
	"math"
	"math/rand"
	"slices"
	"testing"

	"overfall/api"
	"overfall/conf"
	"overfall/core"
	"overfall/fix"
	"overfall/front"
	"overfall/gate"
	"overfall/lin"
	"overfall/play"
)

func isBusy(end int, r core.Result) bool { return end >= 0 && r.Answer == gate.Busy }

// owners restates to which calls the entries belong, -1 for none, by going through all calls for each of them.
func owners(h play.History) []int {
	var owner []int
	for _, entry := range h.Applied {
		owner = append(owner, slices.IndexFunc(indices(len(h.Calls)), func(i int) bool {
			c := h.Calls[i]
			return c.Thread == entry.Thread && !slices.Contains(owner, i) && !isBusy(c.End, c.Result)
		}))
	}
	return owner
}

func indices(n int) []int {
	l := make([]int, n)
	for i := range l {
		l[i] = i
	}
	return l
}

// lastAnswer is that of a core which executes all entries anew.
func lastAnswer(c conf.Config, entries []front.Applied) core.Result {
	k, _ := core.New(c)
	var r core.Result
	for _, entry := range entries {
		r = k.Do(entry.Clock, entry.Op)
	}
	return r
}

// violates restates rules 1 to 5 for an entry, each by itself.
func violates(c conf.Config, h play.History, owner []int, n int, rule byte) bool {
	entry := h.Applied[n]
	if owner[n] < 0 {
		return rule == whose
	}
	own := h.Calls[owner[n]]
	switch rule {
	case whose:
		return own.Op != entry.Op
	case when:
		return !(entry.Clock >= own.From && (own.End < 0 || entry.Clock <= own.To))
	case clock:
		return n == 0 && entry.Clock < 0 || n > 0 && entry.Clock < h.Applied[n-1].Clock
	case answer:
		return entry.Result != lastAnswer(c, h.Applied[:n+1]) || own.End >= 0 && entry.Result != own.Result
	}
	return own.End >= 0 && slices.ContainsFunc(owner[:n], func(i int) bool { return i >= 0 && h.Calls[i].Begin > own.End })
}

// faultOf restates P22.1.
func faultOf(c conf.Config, h play.History) lin.Fault {
	if c.Valid() != api.OK {
		return right
	}
	owner := owners(h)
	for n := range h.Applied {
		for rule := byte(whose); rule <= order; rule++ {
			if violates(c, h, owner, n, rule) {
				return fault(n, rule)
			}
		}
	}
	for i, own := range h.Calls {
		if own.End >= 0 && own.Result.Answer != gate.Busy && !slices.Contains(owner, i) {
			return fault(i, lost)
		}
	}
	return right
}

// randomOp is seldom a Drain, after which all is the same.
func randomOp(r *rand.Rand) core.Op {
	switch kind := r.Intn(100); {
	case kind < 50:
		return core.Op{Kind: core.Submit, Tier: r.Intn(4), Cohort: r.Intn(3), N: int64(r.Intn(60))}
	case kind < 85:
		return core.Op{Kind: core.Poll}
	case kind < 95:
		return core.Op{Kind: core.Sample, N: int64(r.Intn(3)) * int64(fix.One)}
	case kind < 97:
		return core.Op{Kind: core.Drain, N: int64(r.Intn(60))}
	}
	return core.Op{Kind: byte(r.Intn(256)), Tier: r.Int(), Cohort: -r.Int(), N: int64(r.Uint64())}
}

func randomConfig(r *rand.Rand) conf.Config {
	c := sized(1+r.Intn(4), 1+r.Intn(4))
	c.Threads, c.Ring, c.Target, c.Interval = 1+r.Intn(5), 2<<r.Intn(3), 3, 9
	return c
}

// randomItems lets threads run on for a while before another one goes on.
func randomItems(r *rand.Rand, threads, n int) []play.Item {
	var items []play.Item
	thread := 0
	for len(items) < n {
		if r.Intn(3) == 0 {
			thread = r.Intn(threads)
		}
		switch kind := r.Intn(40); {
		case kind == 0:
			items = append(items, play.Item{Kind: play.Tick, N: int64(r.Intn(8))})
		case kind < 8:
			items = append(items, play.Item{Kind: play.Start, Thread: thread, Op: randomOp(r)})
		default:
			items = append(items, play.Item{Kind: play.Pick, Thread: thread})
		}
	}
	return items
}

func randomHistory(t *testing.T, r *rand.Rand, c conf.Config, items int) play.History {
	t.Helper()
	_, h, e := play.Finish(c, randomItems(r, c.Threads, items), r.Intn(2)*r.Intn(40))
	if e != api.OK {
		t.Fatal(e)
	}
	return h
}

func spoilResult(r *rand.Rand, result *core.Result) {
	switch r.Intn(5) {
	case 0:
		result.Answer = byte(1 + r.Intn(11))
	case 1:
		result.Ticket += uint64(r.Intn(3)) - 1
	case 2:
		result.Tier += r.Intn(3) - 1
	case 3:
		result.Cohort += r.Intn(3) - 1
	case 4:
		result.Sojourn += int64(r.Intn(3)) - 1
	}
}

func spoilEntry(r *rand.Rand, h *play.History) {
	n := r.Intn(len(h.Applied))
	entry, other := &h.Applied[n], h.Applied[r.Intn(len(h.Applied))]
	switch r.Intn(7) {
	case 0:
		entry.Thread = r.Intn(6) - 1
	case 1:
		entry.Clock += int64(r.Intn(5)) - 2
	case 2:
		entry.Op = randomOp(r)
	case 3:
		spoilResult(r, &entry.Result)
	case 4:
		h.Applied = slices.Delete(h.Applied, n, n+1)
	case 5:
		h.Applied = slices.Insert(h.Applied, n, other)
	case 6:
		*entry, h.Applied[len(h.Applied)-1] = h.Applied[len(h.Applied)-1], *entry
	}
}

func spoilCall(r *rand.Rand, h *play.History) {
	n := r.Intn(len(h.Calls))
	c, other := &h.Calls[n], h.Calls[r.Intn(len(h.Calls))]
	switch r.Intn(11) {
	case 0:
		c.Thread = r.Intn(6) - 1
	case 1:
		c.Op = randomOp(r)
	case 2:
		c.Begin += r.Intn(41) - 20
	case 3:
		c.End += r.Intn(41) - 20
	case 4:
		c.From += int64(r.Intn(5)) - 2
	case 5:
		c.To += int64(r.Intn(5)) - 2
	case 6:
		spoilResult(r, &c.Result)
	case 7:
		c.End = -1 - r.Intn(3)
	case 8:
		h.Calls = slices.Delete(h.Calls, n, n+1)
	case 9:
		h.Calls = slices.Insert(h.Calls, n, other)
	case 10:
		*c, h.Calls[len(h.Calls)-1] = h.Calls[len(h.Calls)-1], *c
	}
}

// followCore gives entries and calls the results of a core, so that later rules than answer have their turn.
func followCore(c conf.Config, h *play.History) {
	k, _ := core.New(c)
	owner := owners(*h)
	for n, entry := range h.Applied {
		h.Applied[n].Result = k.Do(entry.Clock, entry.Op)
		if i := owner[n]; i >= 0 && h.Calls[i].End >= 0 {
			h.Calls[i].Result = h.Applied[n].Result
		}
	}
}

func spoilHistory(r *rand.Rand, c conf.Config, h *play.History) {
	for range r.Intn(4) {
		if len(h.Applied) > 0 && r.Intn(2) == 0 {
			spoilEntry(r, h)
		} else if len(h.Calls) > 0 {
			spoilCall(r, h)
		}
	}
	if r.Intn(3) == 0 {
		followCore(c, h)
	}
}

// wildHistory has small numbers, most of which fit nothing.
func wildHistory(r *rand.Rand, c conf.Config) play.History {
	var h play.History
	for range r.Intn(6) {
		h.Calls = append(h.Calls, play.Call{
			Thread: r.Intn(3), Op: core.Op{Kind: byte(r.Intn(2)), N: 50}, Begin: r.Intn(12) - 2, End: r.Intn(12) - 2,
			From: int64(r.Intn(4)) - 1, To: int64(r.Intn(6)), Result: core.Result{Answer: byte(7 + r.Intn(5))},
		})
	}
	for range r.Intn(6) {
		h.Applied = append(h.Applied, front.Applied{Thread: r.Intn(3), Clock: int64(r.Intn(5)) - 1, Op: core.Op{Kind: byte(r.Intn(2)), N: 50}})
	}
	followCore(c, &h)
	return h
}

// shuffledHistory has calls of their own threads, whose entries come in any order.
func shuffledHistory(r *rand.Rand, c conf.Config) play.History {
	var h play.History
	for thread := range r.Intn(7) {
		begin := r.Intn(30)
		h.Calls = append(h.Calls, play.Call{Thread: thread, Op: randomOp(r), Begin: begin, End: begin + r.Intn(30), To: 9})
		if r.Intn(6) == 0 {
			h.Calls[thread].End = -1
		}
		h.Applied = append(h.Applied, front.Applied{Thread: thread, Op: h.Calls[thread].Op})
	}
	r.Shuffle(len(h.Applied), func(i, j int) { h.Applied[i], h.Applied[j] = h.Applied[j], h.Applied[i] })
	for n := range h.Applied {
		h.Applied[n].Clock = int64(n)
	}
	followCore(c, &h)
	return h
}

func anyHistory(t *testing.T, r *rand.Rand, c conf.Config) play.History {
	t.Helper()
	switch r.Intn(6) {
	case 0:
		return wildHistory(r, c)
	case 1:
		return shuffledHistory(r, c)
	}
	h := randomHistory(t, r, c, r.Intn(300))
	spoilHistory(r, c, &h)
	return h
}

// P22.1

func TestCheckAgainstRestatement(t *testing.T) {
	r := rand.New(rand.NewSource(221))
	found := map[byte]int{}
	for range 12000 {
		c := randomConfig(r)
		h := anyHistory(t, r, c)
		want := faultOf(c, h)
		if got := lin.Check(c, h); got != want {
			t.Fatalf("%+v, not %+v, for %+v", got, want, h)
		}
		found[want.Rule]++
	}
	for rule := byte(0); rule <= lost; rule++ {
		if found[rule] < 100 {
			t.Errorf("rule %d was hardly ever violated: %v", rule, found)
		}
	}
}

// P22.2

// valid restates when calls may follow each other: at each position by itself.
func valid(c conf.Config, now int64, l []lin.Done, sequence []int) bool {
	for n, i := range sequence {
		if isBusy(l[i].End, l[i].Result) || slices.Contains(sequence[:n], i) {
			return false
		}
		for j, other := range l {
			if !slices.Contains(sequence[:n], j) && other.End >= 0 && !isBusy(other.End, other.Result) && other.End < l[i].Begin {
				return false
			}
		}
		var entries []front.Applied
		for _, k := range sequence[:n+1] {
			entries = append(entries, front.Applied{Clock: now, Op: l[k].Op})
		}
		if l[i].End >= 0 && l[i].Result != lastAnswer(c, entries) {
			return false
		}
	}
	return true
}

func complete(l []lin.Done, sequence []int) bool {
	for i, c := range l {
		if c.End >= 0 && !isBusy(c.End, c.Result) && !slices.Contains(sequence, i) {
			return false
		}
	}
	return true
}

// firstOf goes through all sequences that begin with one, those with smaller indices first, each before its own continuations.
func firstOf(c conf.Config, now int64, l []lin.Done, sequence []int) ([]int, bool) {
	if !valid(c, now, l, sequence) {
		return nil, false // nor is any that continues it
	}
	if complete(l, sequence) {
		return sequence, true
	}
	for i := range l {
		if found, ok := firstOf(c, now, l, append(slices.Clone(sequence), i)); ok {
			return found, true
		}
	}
	return nil, false
}

func orderOf(c conf.Config, now int64, l []lin.Done) ([]int, api.Errno) {
	if c.Valid() != api.OK {
		return nil, api.ErrArg
	}
	if len(l) > api.MaxCalls {
		return nil, api.ErrLong
	}
	found, ok := firstOf(c, now, l, nil)
	if !ok {
		return nil, api.ErrNone
	}
	return found, api.OK
}

// randomCalls are executed one by one on a core, each within its time, and then listed in another order.
func randomCalls(r *rand.Rand, c conf.Config, now int64) []lin.Done {
	k, _ := core.New(c)
	var l []lin.Done
	for n := range r.Intn(api.MaxCalls + 1) {
		op := randomOp(r)
		if r.Intn(3) > 0 {
			op = core.Op{Kind: byte(r.Intn(2)), N: 50}
		}
		l = append(l, lin.Done{Begin: max(0, 10*n-r.Intn(30)), End: 10*n + 1 + r.Intn(30), Op: op, Result: k.Do(now, op)})
	}
	for i := range l {
		switch r.Intn(8) {
		case 0:
			l[i].End = -1 - r.Intn(2)
		case 1:
			l[i].Result = refused()
		}
	}
	r.Shuffle(len(l), func(i, j int) { l[i], l[j] = l[j], l[i] })
	return l
}

func spoilDone(r *rand.Rand, l []lin.Done) {
	c := &l[r.Intn(len(l))]
	switch r.Intn(4) {
	case 0:
		c.Begin += r.Intn(41) - 20
	case 1:
		c.End += r.Intn(41) - 20
	case 2:
		c.Op = randomOp(r)
	case 3:
		spoilResult(r, &c.Result)
	}
}

func randomNow(r *rand.Rand) int64 {
	switch r.Intn(8) {
	case 0:
		return -int64(r.Intn(9))
	case 1:
		return math.MinInt64 >> r.Intn(9)
	case 2:
		return math.MaxInt64 - int64(r.Intn(9))
	}
	return int64(r.Intn(70))
}

func TestOrderAgainstRestatement(t *testing.T) {
	r := rand.New(rand.NewSource(222))
	found := map[api.Errno]int{}
	lengths := map[int]int{}
	for range 6000 {
		c, now := randomConfig(r), randomNow(r)
		l := randomCalls(r, c, now)
		for range r.Intn(3) {
			if len(l) > 0 {
				spoilDone(r, l)
			}
		}
		if r.Intn(50) == 0 {
			l = append(l, make([]lin.Done, api.MaxCalls)...)
		}
		if r.Intn(50) == 0 {
			c.Room = -c.Room
		}
		want, wantE := orderOf(c, now, l)
		got, e := lin.Order(c, now, l)
		if !slices.Equal(got, want) || e != wantE {
			t.Fatalf("%v, %d, not %v, %d, for %+v at %d", got, e, want, wantE, l, now)
		}
		found[e]++
		lengths[len(got)]++
	}
	if found[api.OK] < 1000 || found[api.ErrNone] < 1000 || found[api.ErrArg] < 50 || found[api.ErrLong] < 50 || lengths[api.MaxCalls] < 20 {
		t.Error("some result is hardly among them:", found, lengths)
	}
}
