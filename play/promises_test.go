package play_test

import (
	"math"
	"math/rand"
	"slices"
	"sync"
	"testing"

	"overfall/api"
	"overfall/audit"
	"overfall/conf"
	"overfall/core"
	"overfall/fix"
	"overfall/gate"
	"overfall/play"
)

// wildConfig is a valid one in which some numbers are anything.
func wildConfig(r *rand.Rand) conf.Config {
	c := randomConfig(r)
	wild := int64(r.Uint64())
	switch r.Intn(12) {
	case 0:
		c.Threads = int(wild)
	case 1:
		c.Ring = int(wild)
	case 2:
		c.Tiers = int(wild)
	case 3:
		c.Room = int(wild)
	case 4:
		c.Horizon = wild >> 13
	case 5:
		c.Setpoint = fix.Q(wild)
	case 6:
		c.Target, c.Interval = 1<<40, 1<<40
		c.Horizon = 1 << 50
	}
	return c
}

// wildItems are of no use but for being anything.
func wildItems(r *rand.Rand, n int) []play.Item {
	items := make([]play.Item, n)
	for i := range items {
		thread := int(r.Uint64() >> r.Intn(65))
		items[i] = play.Item{Kind: byte(r.Intn(4)), Thread: thread, N: int64(r.Uint64()) >> r.Intn(64), Op: randomOp(r)}
		if r.Intn(8) == 0 {
			items[i].Kind = byte(r.Intn(256))
		}
		if r.Intn(2) == 0 {
			items[i].Thread = r.Intn(3)
		}
	}
	return items
}

// P1, P2

func TestWildScripts(t *testing.T) {
	r := rand.New(rand.NewSource(1))
	valid := 0
	for range 1500 {
		c, items := wildConfig(r), wildItems(r, r.Intn(300))
		h, e := play.Run(c, items)
		if e != c.Valid() {
			t.Fatalf("%d, not %d, for %+v", e, c.Valid(), c)
		}
		if e == api.OK {
			valid++
			if want := plainHistory(t, c, items); !equal(h, want) {
				t.Fatalf("%+v, not %+v", h, want)
			}
		}
		rounds := int(r.Uint64()) >> r.Intn(64)
		l, g, e := play.Finish(c, items, min(rounds, 20))
		if again, same, f := play.Finish(c, items, min(rounds, 20)); e != f || !slices.Equal(l, again) || !equal(g, same) {
			t.Fatal("the same script has two results")
		}
	}
	if valid < 500 {
		t.Error("hardly a configuration was valid:", valid)
	}
}

// TestRunsAtOnce: scripts share nothing, so many goroutines may execute some.
func TestRunsAtOnce(t *testing.T) {
	r := rand.New(rand.NewSource(2))
	c := sized(3, 2)
	items := randomItems(r, 3, 2000)
	_, want := finish(t, c, items, 50)
	var all sync.WaitGroup
	for range 8 {
		all.Go(func() {
			for range 10 {
				if _, h, e := play.Finish(c, items, 50); e != api.OK || !equal(h, want) {
					t.Error("another history")
				}
			}
		})
	}
	all.Wait()
}

func TestLongScript(t *testing.T) {
	var items []play.Item
	const calls = 20000
	for n := range calls {
		items = append(items, start(n%4, core.Op{Kind: byte(n % 2), Tier: n % 4, N: math.MaxInt64})...)
		items = append(items, times(alone, n%4)...)
		items = append(items, tick(1)...)
	}
	h := run(t, conf.Default(), items)
	if len(h.Calls) != calls || len(h.Applied) != calls || len(h.Picked) != alone*calls || len(h.Open()) != 0 {
		t.Fatal(len(h.Calls), len(h.Applied), len(h.Picked), len(h.Open()))
	}
	for n, c := range h.Calls {
		if c.Begin != 17*n || c.End != 17*n+alone || c.From != int64(n) || c.To != c.From || c.Thread != n%4 || c.Picks != alone {
			t.Fatalf("%d: %+v", n, c)
		}
	}
}

// nextOf returns the first call of a thread, from its next one on, that was not Busy.
func nextOf(h play.History, next map[int]int, thread int) (play.Call, bool) {
	those := h.Of(thread)
	for next[thread] < len(those) {
		c := h.Calls[those[next[thread]]]
		next[thread]++
		if c.End < 0 || c.Result.Answer != gate.Busy {
			return c, true
		}
	}
	return play.Call{}, false
}

// holdLinear holds the calls against what was applied, and returns the steps of a core that executes it once more.
func holdLinear(t *testing.T, c conf.Config, h play.History) []audit.Step {
	t.Helper()
	k, _ := core.New(c)
	next := map[int]int{}
	latest := 0 // beginning of the entries so far
	var clock int64
	var steps []audit.Step
	for n, a := range h.Applied {
		call, ok := nextOf(h, next, a.Thread)
		if !ok || call.Op != a.Op {
			t.Fatalf("entry %d is of no call: %+v", n, a)
		}
		if a.Clock < clock || a.Clock < call.From || call.End >= 0 && (a.Clock > call.To || latest > call.End) {
			t.Fatalf("entry %d is not within its call: %+v, %+v", n, a, call)
		}
		step := audit.Run(k, a.Clock, a.Op)
		if step.Result != a.Result || call.End >= 0 && call.Result != a.Result {
			t.Fatalf("entry %d has %+v, its call %+v, the core answers %+v", n, a.Result, call.Result, step.Result)
		}
		steps = append(steps, step)
		clock, latest = a.Clock, max(latest, call.Begin)
	}
	for _, thread := range h.Picked {
		if call, ok := nextOf(h, next, thread); ok && call.End >= 0 {
			t.Fatalf("a call of %d was never applied: %+v", thread, call)
		}
	}
	return steps
}

// holdTickets: each ticket that was given has one outcome, or is queued.
func holdTickets(t *testing.T, c conf.Config, h play.History) {
	t.Helper()
	k, _ := core.New(c)
	var given, found []uint64
	for _, a := range h.Applied {
		if k.Do(a.Clock, a.Op); a.Result.Answer == gate.Admitted {
			given = append(given, a.Result.Ticket)
		}
	}
	for _, o := range k.Log().Since(0) {
		found = append(found, o.Ticket)
	}
	for _, q := range k.Queue() {
		found = append(found, q.Ticket)
	}
	slices.Sort(found)
	if !slices.Equal(given, found) {
		t.Fatalf("given are %v, ended or queued %v", given, found)
	}
}

// P3, P4, P5, P7

func TestHistoriesAreLinear(t *testing.T) {
	r := rand.New(rand.NewSource(3))
	busy, applied := 0, 0
	for range 500 {
		c := randomConfig(r)
		items := randomItems(r, c.Threads, r.Intn(1200))
		for _, rounds := range []int{0, 18*c.Threads + 24} {
			_, h := finish(t, c, items, rounds)
			steps := holdLinear(t, c, h)
			if fault := audit.Check(c, steps); fault.At != -1 {
				t.Fatalf("step %d violates %s", fault.At, audit.Name(fault.Rule))
			}
			holdTickets(t, c, h)
			if c.Threads <= c.Ring && h.Busy() != 0 {
				t.Fatal("Busy, though each thread has a position")
			}
			if rounds > 0 && len(h.Open()) != 0 {
				t.Fatalf("calls %v wait for ever", h.Open())
			}
			busy += h.Busy()
			applied += len(h.Applied)
		}
	}
	if busy < 100 || applied < 10000 {
		t.Error("hardly a call was Busy, or applied:", busy, applied)
	}
}

// P5

// TestMoreCriticalIsAdmittedToo: what a Submit is answered behind a script, one with a more critical key is answered no worse.
func TestMoreCriticalIsAdmittedToo(t *testing.T) {
	r := rand.New(rand.NewSource(5))
	admissions := 0
	for range 400 {
		c := randomConfig(r)
		items, _ := finish(t, c, randomItems(r, c.Threads, r.Intn(600)), 18*c.Threads+24)
		last := -1
		for key := c.Tiers*api.Cohorts - 1; key >= 0; key -= 1 + r.Intn(90) {
			op := core.Op{Kind: core.Submit, Tier: key / api.Cohorts, Cohort: key % api.Cohorts, N: math.MaxInt64}
			_, h := finish(t, c, script(items, start(0, op)), 40)
			call := h.Calls[len(h.Calls)-1]
			if call.Begin != len(items) || call.End < 0 {
				t.Fatalf("%+v", call)
			}
			if call.Result.Answer == gate.Admitted {
				last = key
				admissions++
			} else if last >= 0 {
				t.Fatalf("key %d is answered %s, though %d is admitted", key, gate.Name(call.Result.Answer), last)
			}
		}
	}
	if admissions < 100 {
		t.Error("hardly one was admitted:", admissions)
	}
}

// TestCallOfTheStalledThread: whoever stops in the middle of its call holds up others at most until it is picked again.
func TestCallOfTheStalledThread(t *testing.T) {
	for _, c := range []conf.Config{sized(2, 2), sized(3, 4), sized(3, 2), sized(api.MaxThreads, 16)} {
		for stop := range alone {
			items := script(start(0, submit(0)), times(stop, 0))
			for thread := 1; thread < c.Threads; thread++ {
				items = script(items, start(thread, submit(thread%4)))
			}
			for range 100 {
				for thread := 1; thread < c.Threads; thread++ {
					items = script(items, picks(thread))
				}
			}
			_, h := finish(t, c, items, 18*c.Threads+24)
			holdLinear(t, c, h)
			if len(h.Open()) != 0 || len(h.Calls) != c.Threads {
				t.Fatalf("%v wait for ever of %d", h.Open(), len(h.Calls))
			}
		}
	}
}
