package play_test

import (
	"math"
	"math/rand"
	"slices"
	"testing"

	"overfall/api"
	"overfall/conf"
	"overfall/core"
	"overfall/fix"
	"overfall/front"
	"overfall/gate"
	"overfall/play"
)

// moment is what an item did on a front that was driven by hand.
type moment struct {
	began, ended bool
	now          int64
	result       core.Result
}

func drive(t *testing.T, c conf.Config, items []play.Item) ([]moment, []front.Applied) {
	t.Helper()
	f, e := front.New(c)
	if e != api.OK {
		t.Fatal(e)
	}
	moments := make([]moment, len(items))
	for i, item := range items {
		m := &moments[i]
		switch item.Kind {
		case play.Pick:
			m.result, m.ended = f.Step(item.Thread)
		case play.Start:
			m.began = f.Begin(item.Thread, item.Op) == api.OK
		case play.Tick:
			f.Tick(item.N)
		}
		m.now = f.Now()
	}
	return moments, f.Applied()
}

// callOf finds out about the call that began with an item by what lies behind it.
func callOf(items []play.Item, moments []moment, begin int) play.Call {
	thread := items[begin].Thread
	c := play.Call{Thread: thread, Op: items[begin].Op, Begin: begin, End: -1, From: moments[begin].now}
	for i := begin + 1; i < len(items) && c.End < 0; i++ {
		if items[i].Kind != play.Pick || items[i].Thread != thread {
			continue
		}
		c.Picks++
		if moments[i].ended {
			c.End, c.To, c.Result = i, moments[i].now, moments[i].result
		}
	}
	return c
}

// plainHistory restates P21.1: first all is driven, then each call is looked up by itself.
func plainHistory(t *testing.T, c conf.Config, items []play.Item) play.History {
	t.Helper()
	moments, applied := drive(t, c, items)
	h := play.History{Applied: applied}
	for i, item := range items {
		if moments[i].began {
			h.Calls = append(h.Calls, callOf(items, moments, i))
		}
		if item.Kind == play.Pick {
			h.Picked = append(h.Picked, item.Thread)
		}
	}
	return h
}

// randomConfig has few threads, often more of them than positions.
func randomConfig(r *rand.Rand) conf.Config {
	c := sized(1+r.Intn(6), 2<<r.Intn(3))
	if r.Intn(8) == 0 {
		c = sized(1+r.Intn(api.MaxThreads), 2<<r.Intn(6))
	}
	c.Tiers, c.Room, c.Target, c.Interval = 1+r.Intn(4), 1+r.Intn(8), 9, 20
	return c
}

// randomOp is seldom a Drain, after which all is the same.
func randomOp(r *rand.Rand) core.Op {
	switch kind := r.Intn(200); {
	case kind < 100:
		return core.Op{Kind: core.Submit, Tier: r.Intn(5), Cohort: r.Intn(api.Cohorts), N: int64(r.Intn(400))}
	case kind < 170:
		return core.Op{Kind: core.Poll, N: int64(r.Intn(3))}
	case kind < 190:
		return core.Op{Kind: core.Sample, N: int64(r.Intn(3)) * int64(fix.One)}
	case kind < 191:
		return core.Op{Kind: core.Drain, N: int64(r.Intn(400))}
	}
	return core.Op{Kind: byte(r.Intn(256)), Tier: r.Int(), Cohort: -r.Int(), N: int64(r.Uint64())}
}

func randomThread(r *rand.Rand, threads int) int {
	switch r.Intn(60) {
	case 0:
		return -1 - r.Intn(3)
	case 1:
		return threads + r.Intn(3)
	case 2:
		return int(r.Uint64())
	}
	return r.Intn(threads)
}

func randomTick(r *rand.Rand) int64 {
	if r.Intn(400) == 0 {
		return math.MaxInt64 - int64(r.Intn(100))
	}
	if r.Intn(30) == 0 {
		return -int64(r.Uint64() >> 1)
	}
	return int64(r.Intn(8))
}

// randomItems lets threads run on for a while before another one goes on.
func randomItems(r *rand.Rand, threads, n int) []play.Item {
	var items []play.Item
	thread := 0
	for len(items) < n {
		if r.Intn(3) == 0 {
			thread = randomThread(r, threads)
		}
		switch kind := r.Intn(40); {
		case kind == 0:
			items = append(items, tick(randomTick(r))...)
		case kind == 1:
			items = append(items, play.Item{Kind: byte(3 + r.Intn(253)), Thread: thread, N: int64(r.Uint64()), Op: randomOp(r)})
		case kind < 8:
			items = append(items, start(thread, randomOp(r))...)
		default:
			items = append(items, picks(thread)...)
		}
	}
	return items
}

// P21.1, P21.2, P2

func TestAgainstRestatement(t *testing.T) {
	r := rand.New(rand.NewSource(211))
	for range 1500 {
		c := randomConfig(r)
		items := randomItems(r, c.Threads, r.Intn(500))
		want := plainHistory(t, c, items)
		if h := run(t, c, items); !equal(h, want) {
			t.Fatalf("%+v, not %+v, of %+v", h, want, items)
		}
		rounds := r.Intn(60) - 5
		all, h := finish(t, c, items, rounds)
		if !slices.Equal(all, script(items, roundsOf(c.Threads, max(rounds, 0)))) {
			t.Fatal("not the items and the rounds")
		}
		if want := plainHistory(t, c, all); !equal(h, want) {
			t.Fatalf("%+v, not %+v, of %+v", h, want, all)
		}
		holdMethods(t, h)
	}
}

// holdMethods holds what a history answers against its calls, one by one.
func holdMethods(t *testing.T, h play.History) {
	t.Helper()
	open, of := h.Open(), map[int][]int{}
	for _, thread := range append(h.Picked, -1, 16) {
		of[thread] = h.Of(thread)
	}
	busy, seen := 0, 0
	for i, c := range h.Calls {
		if slices.Contains(open, i) != (c.End == -1) {
			t.Fatalf("open are %v of %+v", open, h.Calls)
		}
		if c.End != -1 && c.Result.Answer == gate.Busy {
			busy++
		}
		for thread, those := range of {
			if slices.Contains(those, i) != (c.Thread == thread) {
				t.Fatalf("of %d are %v of %+v", thread, those, h.Calls)
			}
			if c.Thread == thread {
				seen++
			}
		}
	}
	total := 0
	for _, those := range of {
		total += len(those)
		if !slices.IsSorted(those) {
			t.Fatal("not in order:", those)
		}
	}
	if total != seen || h.Busy() != busy || !slices.IsSorted(open) {
		t.Fatalf("%d calls, not %d; %d are Busy, not %d; open are %v", total, seen, h.Busy(), busy, open)
	}
}
