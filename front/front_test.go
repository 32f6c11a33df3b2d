package front_test

import (
	"math"
	"slices"
	"testing"
	"time"

	"overfall/api"
	"overfall/conf"
	"overfall/core"
	"overfall/fix"
	"overfall/front"
	"overfall/gate"
)

func sized(threads, ring int) conf.Config {
	c := conf.Default()
	c.Threads, c.Ring = threads, ring
	return c
}

func fresh(t *testing.T, threads, ring int) *front.Front {
	t.Helper()
	f, e := front.New(sized(threads, ring))
	if e != api.OK || f == nil {
		t.Fatal("no front:", e)
	}
	return f
}

func submit(tier int) core.Op { return core.Op{Kind: core.Submit, Tier: tier, N: 500} }

func begin(t *testing.T, f *front.Front, thread int, op core.Op) {
	t.Helper()
	if e := f.Begin(thread, op); e != api.OK {
		t.Fatalf("%d cannot begin: %d", thread, e)
	}
	at(t, f, thread, front.Post)
}

func at(t *testing.T, f *front.Front, thread, want int) {
	t.Helper()
	if got := f.Where(thread); got != want {
		t.Fatalf("next for %d is %d, not %d", thread, got, want)
	}
}

// walk lets a thread execute steps that are told, none of which ends its call.
func walk(t *testing.T, f *front.Front, thread int, steps ...int) {
	t.Helper()
	for n, want := range steps {
		if got := f.Where(thread); got != want {
			t.Fatalf("step %d of %d is %d, not %d", n, thread, got, want)
		}
		if r, ended := f.Step(thread); ended || r != (core.Result{}) {
			t.Fatalf("step %d of %d ended: %+v, %v", n, thread, r, ended)
		}
	}
}

// last lets a thread execute the step with which its call ends.
func last(t *testing.T, f *front.Front, thread, step int) core.Result {
	t.Helper()
	at(t, f, thread, step)
	r, ended := f.Step(thread)
	if !ended {
		t.Fatalf("step %d of %d doesn't end its call", step, thread)
	}
	at(t, f, thread, front.Rest)
	return r
}

// callWithin is a Call that is given up where a fault holds it up for ever.
func callWithin(t *testing.T, f *front.Front, thread int, op core.Op) (r core.Result, ok bool) {
	answer := make(chan core.Result, 1)
	go func() { answer <- f.Call(thread, op) }()
	select {
	case r = <-answer:
		return r, true
	case <-time.After(20 * time.Second):
		t.Errorf("a Call of %d does not end", thread)
		return r, false
	}
}

func call(t *testing.T, f *front.Front, thread int, op core.Op) core.Result {
	t.Helper()
	r, ok := callWithin(t, f, thread, op)
	if !ok {
		t.FailNow()
	}
	return r
}

// The steps of a call up to its first Wait, and those by which the owner of the lock serves one call.
func joins() []int  { return []int{front.Post, front.Join, front.Join} }
func pushes() []int { return []int{front.Post, front.Join, front.Join, front.Join, front.Join} }
func serves() []int {
	return []int{front.Take, front.Take, front.Take, front.Take, front.Apply, front.Tell}
}
func frees() []int { return []int{front.Take, front.Take, front.Free} }

func admitted(ticket uint64, tier int) core.Result {
	return core.Result{Answer: gate.Admitted, Ticket: ticket, Tier: tier}
}

// P20.1

func TestStepsNumbers(t *testing.T) {
	steps := [...]int{front.Rest, front.Post, front.Join, front.Wait, front.Lock, front.Take, front.Apply, front.Tell, front.Free}
	if steps != [...]int{0, 1, 2, 3, 4, 5, 6, 7, 8} {
		t.Error(steps)
	}
}

func TestNewReturnsTheErrorOfValid(t *testing.T) {
	wrong := []func(c *conf.Config){
		func(c *conf.Config) { c.Threads = 0 },
		func(c *conf.Config) { c.Threads = -1 },
		func(c *conf.Config) { c.Threads = api.MaxThreads + 1 },
		func(c *conf.Config) { c.Threads = math.MaxInt },
		func(c *conf.Config) { c.Ring = 0 },
		func(c *conf.Config) { c.Ring = 3 },
		func(c *conf.Config) { c.Ring = 2 * api.MaxRing },
		func(c *conf.Config) { c.Tiers = 0 },
		func(c *conf.Config) { c.Room = -1 },
		func(c *conf.Config) { c.Step = 0 },
		func(c *conf.Config) { *c = conf.Config{} },
	}
	for n, spoil := range wrong {
		c := conf.Default()
		spoil(&c)
		if f, e := front.New(c); f != nil || e != api.ErrArg || e != c.Valid() {
			t.Errorf("%d: %v, %d, not no front and ErrArg", n, f, e)
		}
	}
}

func TestNewFront(t *testing.T) {
	for threads := 1; threads <= api.MaxThreads; threads++ {
		for ring := 2; ring <= api.MaxRing; ring *= 2 {
			f := fresh(t, threads, ring)
			if f.Threads() != threads || f.Now() != 0 || f.Waiting() != 0 || len(f.Applied()) != 0 {
				t.Fatal(f.Threads(), f.Now(), f.Waiting(), f.Applied())
			}
			if f.Core().Config() != sized(threads, ring) || f.Core().Ticket() != 0 || f.Core().Phase() != core.Running {
				t.Fatalf("%+v", f.Core().Config())
			}
			for thread := range threads {
				at(t, f, thread, front.Rest)
			}
		}
	}
}

func TestTick(t *testing.T) {
	f := fresh(t, 4, 4)
	for _, step := range []struct{ d, now int64 }{
		{0, 0}, {1, 1}, {-1, 1}, {math.MinInt64, 1}, {41, 42}, {0, 42}, {-42, 42},
		{1 << 40, 1<<40 + 42}, {math.MaxInt64 - 1<<40 - 43, math.MaxInt64 - 1}, {1, math.MaxInt64},
		{1, math.MaxInt64}, {math.MaxInt64, math.MaxInt64}, {-5, math.MaxInt64}, {math.MinInt64, math.MaxInt64},
	} {
		f.Tick(step.d)
		if f.Now() != step.now || f.Now() != step.now {
			t.Fatalf("after a Tick of %d it is %d, not %d", step.d, f.Now(), step.now)
		}
	}
	if f.Core().Clock() != 0 {
		t.Error("the core's clock ticks by itself")
	}
	f = fresh(t, 4, 4)
	f.Tick(math.MaxInt64)
	if f.Now() != math.MaxInt64 {
		t.Error(f.Now())
	}
}

func TestCoreIsTheFrontsOwn(t *testing.T) {
	f, g := fresh(t, 4, 4), fresh(t, 4, 4)
	if f.Core() == nil || f.Core() != f.Core() || f.Core() == g.Core() {
		t.Fatal("not a core of its own")
	}
	call(t, f, 1, submit(2))
	if q := f.Core().Queue(); len(q) != 1 || q[0].Tier != 2 || len(g.Core().Queue()) != 0 {
		t.Error(q, g.Core().Queue())
	}
	f.Core().Do(9, core.Op{Kind: core.Poll})
	if r := call(t, f, 0, core.Op{Kind: core.Poll}); r.Answer != gate.Empty {
		t.Error("what the core did by itself is not seen:", r)
	}
	if l := f.Applied(); len(l) != 2 || l[1].Clock != 0 {
		t.Error("not the two calls of threads, at the front's times:", l)
	}
}

func TestAppliedInOrder(t *testing.T) {
	f := fresh(t, 4, 4)
	var want []front.Applied
	for n, op := range []core.Op{submit(1), {Kind: core.Poll}, {Kind: core.Sample, N: int64(fix.Whole(3))}, {Kind: 200, Tier: -1}, submit(-1), {Kind: core.Drain, N: 7}, submit(0)} {
		f.Tick(int64(n))
		r := call(t, f, n%4, op)
		want = append(want, front.Applied{Thread: n % 4, Clock: f.Now(), Op: op, Result: r})
		if !slices.Equal(f.Applied(), want) {
			t.Fatalf("applied were %+v, not %+v", f.Applied(), want)
		}
	}
}

func TestAppliedIsNewMemory(t *testing.T) {
	f := fresh(t, 4, 4)
	for range 5 {
		call(t, f, 0, submit(1))
		call(t, f, 1, core.Op{Kind: core.Poll})
		got := f.Applied()
		want := slices.Clone(got)
		full := got[:cap(got)]
		for i := range full {
			full[i] = front.Applied{Thread: -1, Clock: -1}
		}
		if !slices.Equal(f.Applied(), want) {
			t.Fatal("a result is the front's own memory")
		}
		call(t, f, 2, submit(0))
		for _, a := range full {
			if a != (front.Applied{Thread: -1, Clock: -1}) {
				t.Fatal("an earlier result was changed")
			}
		}
		call(t, f, 2, core.Op{Kind: core.Poll})
	}
}

func TestWaitingCountsClaimedPositions(t *testing.T) {
	f := fresh(t, 4, 4)
	waits := func(want int) {
		t.Helper()
		if f.Waiting() != want {
			t.Fatalf("%d wait, not %d", f.Waiting(), want)
		}
	}
	for thread := range 3 {
		begin(t, f, thread, submit(0))
		walk(t, f, thread, front.Post)
		waits(thread)
		walk(t, f, thread, front.Join) // claims
		waits(thread + 1)
		walk(t, f, thread, front.Join)
		waits(thread + 1)
	}
	walk(t, f, 0, front.Wait, front.Lock, front.Take, front.Take)
	waits(3)
	walk(t, f, 0, front.Take) // claims
	waits(2)
	walk(t, f, 0, front.Take, front.Apply, front.Tell, front.Take, front.Take)
	waits(2)
	walk(t, f, 0, front.Take)
	waits(1)

	f = fresh(t, 3, 2)
	begin(t, f, 2, submit(0))
	walk(t, f, 2, front.Post, front.Join, front.Join)
	waits(0)
	walk(t, f, 2, front.Join) // claims
	waits(1)
	walk(t, f, 2, front.Join, front.Wait, front.Lock, front.Take, front.Take, front.Take)
	waits(0)
}

// P20.2

func TestExample(t *testing.T) {
	f := fresh(t, 4, 4)
	begin(t, f, 0, submit(2))
	walk(t, f, 0, front.Post, front.Join, front.Join, front.Wait, front.Lock,
		front.Take, front.Take, front.Take, front.Take, front.Apply, front.Tell,
		front.Take, front.Take, front.Free)
	if r := last(t, f, 0, front.Wait); r != admitted(1, 2) {
		t.Errorf("%+v", r)
	}
}

func TestBeginErrors(t *testing.T) {
	for _, threads := range []int{1, 3, api.MaxThreads} {
		f := fresh(t, threads, 2)
		for _, thread := range []int{-1, threads, threads + 1, api.MaxThreads, math.MaxInt, math.MinInt, -threads} {
			if e := f.Begin(thread, submit(0)); e != api.ErrArg {
				t.Errorf("%d of %d begins: %d", thread, threads, e)
			}
			if r, ended := f.Step(thread); r != (core.Result{}) || ended {
				t.Error("a step of no thread:", r, ended)
			}
			if r := call(t, f, thread, submit(0)); r != (core.Result{}) {
				t.Error("a call of no thread:", r)
			}
			at(t, f, thread, front.Rest)
		}
		if len(f.Applied()) != 0 || f.Waiting() != 0 {
			t.Error("calls of no threads were applied")
		}
	}
}

// TestBusyAtEachStep: a thread that has a call cannot begin another one, wherever it is, and its call goes on as if nothing had been asked.
func TestBusyAtEachStep(t *testing.T) {
	f := fresh(t, 2, 2)
	begin(t, f, 1, submit(1))
	steps := slices.Concat(joins(), []int{front.Wait, front.Lock}, serves(), frees())
	for _, step := range steps {
		if e := f.Begin(1, core.Op{Kind: core.Drain}); e != api.ErrBusy {
			t.Fatalf("at step %d it begins: %d", step, e)
		}
		if r := call(t, f, 1, core.Op{Kind: core.Drain}); r != (core.Result{}) {
			t.Fatalf("at step %d it calls: %+v", step, r)
		}
		at(t, f, 0, front.Rest)
		walk(t, f, 1, step)
	}
	if f.Begin(1, submit(0)) != api.ErrBusy {
		t.Fatal("it begins before it has its result")
	}
	if r := last(t, f, 1, front.Wait); r != admitted(1, 1) {
		t.Fatalf("%+v", r)
	}
	begin(t, f, 1, core.Op{Kind: core.Poll})
	if len(f.Applied()) != 1 {
		t.Error(f.Applied())
	}
}

func TestRestingThreadsHaveNoSteps(t *testing.T) {
	f := fresh(t, 4, 4)
	begin(t, f, 1, submit(0))
	for range 20 {
		for _, thread := range []int{0, 2, 3, -1, 4} {
			if r, ended := f.Step(thread); r != (core.Result{}) || ended {
				t.Fatal(r, ended)
			}
			at(t, f, thread, front.Rest)
		}
	}
	at(t, f, 1, front.Post)
	if f.Waiting() != 0 || f.Now() != 0 || len(f.Applied()) != 0 {
		t.Error("what rests has an effect")
	}
}

func TestOneThreadAlone(t *testing.T) {
	f := fresh(t, 1, 2)
	for n := range 10 {
		begin(t, f, 0, submit(3))
		walk(t, f, 0, joins()...)
		walk(t, f, 0, front.Wait, front.Lock)
		walk(t, f, 0, serves()...)
		walk(t, f, 0, front.Free) // its one call is served: no further Take
		if r := last(t, f, 0, front.Wait); r != admitted(uint64(n+1), 3) {
			t.Fatalf("%+v", r)
		}
	}
}

func TestPushIfThreadsAreMoreThanPositions(t *testing.T) {
	f := fresh(t, 3, 2)
	begin(t, f, 2, submit(1))
	walk(t, f, 2, pushes()...)
	walk(t, f, 2, front.Wait, front.Lock)
	walk(t, f, 2, serves()...)
	walk(t, f, 2, frees()...)
	if r := last(t, f, 2, front.Wait); r != admitted(1, 1) {
		t.Errorf("%+v", r)
	}
}

func TestPushBeginsAnewIfItsPositionIsClaimed(t *testing.T) {
	f := fresh(t, 3, 2)
	for thread := range 2 {
		begin(t, f, thread, submit(thread))
		walk(t, f, thread, front.Post, front.Join, front.Join)
	}
	walk(t, f, 0, front.Join, front.Join)
	walk(t, f, 1, front.Join, front.Join, front.Join, front.Join, front.Join)
	at(t, f, 1, front.Wait)
	if f.Waiting() != 2 {
		t.Error(f.Waiting())
	}
}

// TestOwnerServesOthers: thread 2 owns the lock; 0 and 1 are told in the order in which they joined, and 1 collects though it never owned the lock.
func TestOwnerServesOthers(t *testing.T) {
	f := fresh(t, 3, 4)
	for _, thread := range []int{1, 0, 2} {
		begin(t, f, thread, submit(thread))
		walk(t, f, thread, joins()...)
	}
	walk(t, f, 2, front.Wait, front.Lock)
	walk(t, f, 1, front.Wait, front.Lock, front.Wait) // the lock is 2's
	walk(t, f, 2, serves()...)
	walk(t, f, 1, front.Lock)
	if r := last(t, f, 1, front.Wait); r != admitted(1, 1) {
		t.Errorf("%+v", r)
	}
	walk(t, f, 2, serves()...)
	if r := last(t, f, 0, front.Wait); r != admitted(2, 0) {
		t.Errorf("%+v", r)
	}
	walk(t, f, 2, serves()...)
	walk(t, f, 2, front.Free) // as many as there are threads
	if r := last(t, f, 2, front.Wait); r != admitted(3, 2) {
		t.Errorf("%+v", r)
	}
}

func TestLockThatIsOwnedLeadsBackToWait(t *testing.T) {
	f := fresh(t, 4, 4)
	for thread := range 2 {
		begin(t, f, thread, submit(0))
		walk(t, f, thread, joins()...)
		walk(t, f, thread, front.Wait)
	}
	walk(t, f, 0, front.Lock)
	for range 50 {
		walk(t, f, 1, front.Lock, front.Wait)
	}
	walk(t, f, 0, front.Take, front.Take, front.Take, front.Take, front.Apply)
	walk(t, f, 1, front.Lock, front.Wait)
	walk(t, f, 0, front.Tell)
	walk(t, f, 0, serves()...)
	walk(t, f, 0, frees()...)
	last(t, f, 0, front.Wait)
	walk(t, f, 1, front.Lock, front.Take, front.Take, front.Free) // it owns the lock, though it has been served
	last(t, f, 1, front.Wait)
}

// TestOwnerServesNoMoreThanThreads: though thread 1 comes back with a new call each time, the owner frees the lock at last.
func TestOwnerServesNoMoreThanThreads(t *testing.T) {
	for _, threads := range []int{2, 3, 4} {
		f := fresh(t, threads, 4)
		begin(t, f, 0, submit(0))
		begin(t, f, 1, submit(1))
		walk(t, f, 1, joins()...)
		walk(t, f, 0, joins()...)
		walk(t, f, 0, front.Wait, front.Lock)
		for n := range threads {
			walk(t, f, 0, serves()...)
			if n == 1 {
				continue // that was its own call
			}
			last(t, f, 1, front.Wait)
			begin(t, f, 1, submit(1))
			walk(t, f, 1, joins()...)
		}
		walk(t, f, 0, front.Free)
		if f.Waiting() != 1 || len(f.Applied()) != threads {
			t.Fatal(f.Waiting(), f.Applied())
		}
		last(t, f, 0, front.Wait)
	}
}

// TestUnfilledPositionEndsTheServing: who has claimed the first position, but hasn't filled it, holds up those behind it.
func TestUnfilledPositionEndsTheServing(t *testing.T) {
	f := fresh(t, 2, 2)
	begin(t, f, 0, submit(0))
	begin(t, f, 1, submit(1))
	walk(t, f, 0, front.Post, front.Join)
	walk(t, f, 1, joins()...)
	for range 3 {
		walk(t, f, 1, front.Wait, front.Lock)
		walk(t, f, 1, frees()...)
	}
	walk(t, f, 0, front.Join)
	walk(t, f, 1, front.Wait, front.Lock)
	walk(t, f, 1, serves()...)
	walk(t, f, 1, serves()...)
	walk(t, f, 1, front.Free)
	if r := last(t, f, 1, front.Wait); r != admitted(2, 1) {
		t.Errorf("%+v", r)
	}
	if r := last(t, f, 0, front.Wait); r != admitted(1, 0) {
		t.Errorf("%+v", r)
	}
}

// TestClockIsReadAtApply: neither when the call begins nor when it is taken or told.
func TestClockIsReadAtApply(t *testing.T) {
	f := fresh(t, 4, 4)
	begin(t, f, 0, core.Op{Kind: core.Submit, N: 30})
	f.Tick(1)
	for _, step := range slices.Concat(joins(), []int{front.Wait, front.Lock, front.Take, front.Take, front.Take, front.Take}) {
		walk(t, f, 0, step)
		f.Tick(2)
	}
	now := f.Now()
	walk(t, f, 0, front.Apply)
	f.Tick(10)
	walk(t, f, 0, front.Tell)
	f.Tick(10)
	want := []front.Applied{{Thread: 0, Clock: now, Op: core.Op{Kind: core.Submit, N: 30}, Result: admitted(1, 0)}}
	if got := f.Applied(); !slices.Equal(got, want) || f.Core().Clock() != now {
		t.Errorf("%+v at %d, not %+v", got, f.Core().Clock(), want)
	}
	walk(t, f, 0, frees()...)
	if r := last(t, f, 0, front.Wait); r != admitted(1, 0) {
		t.Errorf("%+v", r)
	}
	if r := call(t, f, 0, core.Op{Kind: core.Submit, N: 30}); r.Answer != gate.Expired {
		t.Errorf("%+v at %d", r, f.Now())
	}
}

func TestAppliedBeforeTold(t *testing.T) {
	f := fresh(t, 4, 4)
	begin(t, f, 3, submit(1))
	walk(t, f, 3, joins()...)
	walk(t, f, 3, front.Wait, front.Lock, front.Take, front.Take, front.Take, front.Take)
	if len(f.Applied()) != 0 || f.Core().Ticket() != 0 {
		t.Fatal("applied before Apply")
	}
	walk(t, f, 3, front.Apply)
	if l := f.Applied(); len(l) != 1 || l[0].Thread != 3 || f.Core().Ticket() != 1 {
		t.Fatal(l)
	}
}

// fill lets threads push until the ring is full, without anyone serving them.
func fill(t *testing.T, f *front.Front, threads ...int) {
	t.Helper()
	for _, thread := range threads {
		begin(t, f, thread, submit(thread))
		walk(t, f, thread, pushes()...)
	}
}

func TestBusyIfTheRingIsFull(t *testing.T) {
	f := fresh(t, 4, 2)
	fill(t, f, 3, 0)
	for range 3 {
		for _, thread := range []int{1, 2} {
			begin(t, f, thread, core.Op{Kind: core.Drain})
			walk(t, f, thread, front.Post, front.Join)
			if r := last(t, f, thread, front.Join); r != (core.Result{Answer: gate.Busy}) {
				t.Fatalf("%+v", r)
			}
		}
		if r := call(t, f, 1, core.Op{Kind: core.Drain}); r != (core.Result{Answer: gate.Busy}) {
			t.Fatalf("%+v", r)
		}
	}
	if f.Waiting() != 2 || len(f.Applied()) != 0 {
		t.Fatal("busy calls are in the ring, or applied")
	}
	walk(t, f, 0, front.Wait, front.Lock)
	walk(t, f, 0, front.Take, front.Take, front.Take) // the position is claimed, its slot not free yet
	if r := call(t, f, 1, core.Op{Kind: core.Drain}); r != (core.Result{Answer: gate.Busy}) {
		t.Fatalf("%+v", r)
	}
	walk(t, f, 0, front.Take, front.Apply, front.Tell)
	begin(t, f, 2, submit(2)) // the box of a busy call is idle again
	walk(t, f, 2, pushes()...)
	walk(t, f, 0, serves()...)
	walk(t, f, 0, serves()...)
	walk(t, f, 0, frees()...)
	for _, want := range []struct{ thread, ticket int }{{0, 2}, {2, 3}, {3, 1}} {
		if r := last(t, f, want.thread, front.Wait); r != admitted(uint64(want.ticket), want.thread) {
			t.Errorf("%d: %+v", want.thread, r)
		}
	}
	if r := call(t, f, 1, submit(1)); r != admitted(4, 1) {
		t.Errorf("%+v", r)
	}
}

// TestFullRingIsMetAnew: the ring filled up between the first look at the tail and the claim.
func TestFullRingIsMetAnew(t *testing.T) {
	f := fresh(t, 3, 2)
	begin(t, f, 2, submit(2))
	walk(t, f, 2, front.Post, front.Join, front.Join)
	fill(t, f, 0, 1)
	walk(t, f, 2, front.Join, front.Join)
	if r := last(t, f, 2, front.Join); r != (core.Result{Answer: gate.Busy}) {
		t.Errorf("%+v", r)
	}
}

// P20.3

func TestCallExecutesAllSteps(t *testing.T) {
	f := fresh(t, 4, 4)
	for n := range 100 {
		tier := n % 4
		if r := call(t, f, n%4, submit(tier)); r != admitted(uint64(n+1), tier) {
			t.Fatalf("%+v", r)
		}
		at(t, f, n%4, front.Rest)
		if r := call(t, f, (n+1)%4, core.Op{Kind: core.Poll}); r.Answer != gate.Dispatched || r.Ticket != uint64(n+1) {
			t.Fatalf("%+v", r)
		}
	}
	if f.Waiting() != 0 || len(f.Applied()) != 200 {
		t.Error(f.Waiting(), len(f.Applied()))
	}
}

// TestCallServesTheOthersToo: a Call finds calls in the ring whose threads have not gone on since.
func TestCallServesTheOthersToo(t *testing.T) {
	f := fresh(t, 4, 4)
	for thread := range 3 {
		begin(t, f, thread, submit(thread))
		walk(t, f, thread, joins()...)
	}
	if r := call(t, f, 3, submit(3)); r != admitted(4, 3) {
		t.Errorf("%+v", r)
	}
	for thread := range 3 {
		if r := last(t, f, thread, front.Wait); r != admitted(uint64(thread+1), thread) {
			t.Errorf("%+v", r)
		}
	}
}

func TestNilFront(t *testing.T) {
	var f *front.Front
	for _, thread := range []int{0, 1, -1, math.MaxInt} {
		if e := f.Begin(thread, submit(0)); e != api.ErrNone {
			t.Error(e)
		}
		if r, ended := f.Step(thread); r != (core.Result{}) || ended {
			t.Error(r, ended)
		}
		if r := f.Call(thread, submit(0)); r != (core.Result{}) {
			t.Error(r)
		}
		if f.Where(thread) != front.Rest {
			t.Error(f.Where(thread))
		}
	}
	f.Tick(5)
	if f.Now() != 0 || f.Threads() != 0 || f.Waiting() != 0 || f.Core() != nil || len(f.Applied()) != 0 {
		t.Error("a nil front has something")
	}
}
