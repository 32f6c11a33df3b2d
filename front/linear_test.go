package front_test

import (
	"math/rand"
	"runtime"
	"slices"
	"sync"
	"sync/atomic"
	"testing"
	"time"

	"overfall/api"
	"overfall/audit"
	"overfall/conf"
	"overfall/core"
	"overfall/front"
	"overfall/gate"
)

// told is a call as its thread saw it: moments count all that happened, so that they tell which of two calls was the earlier one.
type told struct {
	op         core.Op
	begin, end int64 // moments; end is -1 if it has not ended
	from, to   int64 // what was Now then
	result     core.Result
}

func (c told) busy() bool { return c.end >= 0 && c.result.Answer == gate.Busy }

// holdLinear holds the calls of each thread, in their order, against what was applied: each call that ended otherwise than with Busy exactly once, between its beginning and its end, with the results of a core that executes them in that order.
func holdLinear(t *testing.T, c conf.Config, calls [][]told, applied []front.Applied) {
	t.Helper()
	again, _ := core.New(c)
	var steps []audit.Step
	var clock, latest int64 // of the entries so far: the last time, and the latest beginning
	next := make([]int, len(calls))
	for n, a := range applied {
		call, ok := nextApplied(calls, next, a.Thread)
		if !ok || call.op != a.Op {
			t.Fatalf("entry %d is of no call of %d: %+v", n, a.Thread, a)
		}
		if a.Clock < clock || a.Clock < call.from || call.end >= 0 && a.Clock > call.to {
			t.Fatalf("entry %d was applied at %d, after %d, though its call lasted from %d to %d", n, a.Clock, clock, call.from, call.to)
		}
		if call.end >= 0 && latest > call.end {
			t.Fatalf("entry %d comes after that of a call that began after it had ended", n)
		}
		step := audit.Run(again, a.Clock, a.Op)
		if step.Result != a.Result || call.end >= 0 && call.result != a.Result {
			t.Fatalf("entry %d has %+v, its call %+v, the core answers %+v", n, a.Result, call.result, step.Result)
		}
		steps = append(steps, step)
		clock, latest = a.Clock, max(latest, call.begin)
	}
	holdNoneLost(t, c, calls, next)
	if fault := audit.Check(c, steps); fault.At != -1 {
		t.Fatalf("step %d violates %s", fault.At, audit.Name(fault.Rule))
	}
}

func nextApplied(calls [][]told, next []int, thread int) (told, bool) {
	if thread < 0 || thread >= len(calls) {
		return told{}, false
	}
	for next[thread] < len(calls[thread]) {
		call := calls[thread][next[thread]]
		next[thread]++
		if !call.busy() {
			return call, true
		}
	}
	return told{}, false
}

func holdNoneLost(t *testing.T, c conf.Config, calls [][]told, next []int) {
	t.Helper()
	for thread, l := range calls {
		for n, call := range l {
			if n >= next[thread] && call.end >= 0 && !call.busy() {
				t.Fatalf("call %d of %d was never applied: %+v", n, thread, call)
			}
			if call.busy() && c.Threads <= c.Ring {
				t.Fatalf("call %d of %d is Busy, though each thread has a position", n, thread)
			}
			if call.busy() && call.result != (core.Result{Answer: gate.Busy}) {
				t.Fatalf("a Busy call has %+v", call.result)
			}
		}
	}
}

// script drives a front by one goroutine, step by step, and notes its calls.
type script struct {
	config conf.Config
	front  *front.Front
	calls  [][]told
	moment int64
}

func newScript(t *testing.T, c conf.Config) *script {
	t.Helper()
	f, e := front.New(c)
	if e != api.OK {
		t.Fatal(e)
	}
	return &script{config: c, front: f, calls: make([][]told, c.Threads)}
}

func (s *script) begin(thread int, op core.Op) {
	s.moment++
	if s.front.Begin(thread, op) == api.OK {
		s.calls[thread] = append(s.calls[thread], told{op: op, begin: s.moment, end: -1, from: s.front.Now()})
	}
}

// step also holds the moment of each application against the clock, which stands still meanwhile.
func (s *script) step(t *testing.T, thread int) {
	t.Helper()
	s.moment++
	where, before := s.front.Where(thread), len(s.front.Applied())
	r, ended := s.front.Step(thread)
	applied := s.front.Applied()
	if grown := len(applied) - before; grown != 0 && where != front.Apply || grown != 1 && where == front.Apply {
		t.Fatalf("step %d applies %d calls", where, grown)
	}
	if where == front.Apply && applied[before].Clock != s.front.Now() {
		t.Fatalf("applied at %d, though it is %d", applied[before].Clock, s.front.Now())
	}
	if ended {
		call := &s.calls[thread][len(s.calls[thread])-1]
		call.end, call.to, call.result = s.moment, s.front.Now(), r
	}
}

func (s *script) open(thread int) bool { return s.front.Where(thread) != front.Rest }

// rounds lets all threads go on in turn until none has a call, which must be soon.
func (s *script) rounds(t *testing.T) {
	t.Helper()
	threads := s.config.Threads
	for range 18*threads + 24 {
		for thread := range threads {
			s.step(t, thread)
		}
	}
	for thread := range threads {
		if s.open(thread) {
			t.Fatalf("%d waits for ever, at step %d", thread, s.front.Where(thread))
		}
	}
	if s.front.Waiting() != 0 {
		t.Fatalf("%d wait, though no thread has a call", s.front.Waiting())
	}
}

func (s *script) hold(t *testing.T) {
	t.Helper()
	holdLinear(t, s.config, s.calls, s.front.Applied())
}

// P20.4, P3, P4, P5, P7

func TestLinearInRandomOrders(t *testing.T) {
	r := rand.New(rand.NewSource(204))
	busy := 0
	for range 400 {
		c := randomConfig(r)
		s := newScript(t, c)
		thread := 0
		for range r.Intn(600) {
			if r.Intn(4) == 0 {
				thread = r.Intn(c.Threads)
			}
			switch {
			case r.Intn(20) == 0:
				s.front.Tick(int64(r.Intn(8)))
			case !s.open(thread):
				s.begin(thread, randomOp(r, s.front.Now()))
			default:
				s.step(t, thread)
			}
		}
		s.hold(t) // while calls are open, too
		s.rounds(t)
		s.hold(t)
		for _, call := range slices.Concat(s.calls...) {
			if call.busy() {
				busy++
			}
		}
	}
	if busy < 100 {
		t.Error("hardly a call was Busy:", busy)
	}
}

// runs lets threads in turn execute as many steps as told, each beginning anew what has ended, and the clock tick between.
func runs(t *testing.T, c conf.Config, lengths []int) {
	t.Helper()
	ops := []core.Op{submit(1), {Kind: core.Poll}, submit(0)}
	s := newScript(t, c)
	for thread := range c.Threads {
		s.begin(thread, ops[thread%3])
	}
	for n, length := range lengths {
		thread := n % c.Threads
		for range length {
			if !s.open(thread) {
				s.begin(thread, ops[n%3])
			}
			s.step(t, thread)
		}
		s.front.Tick(1)
	}
	s.rounds(t)
	s.hold(t)
}

// TestLinearInAllOrdersOfFewSwitches goes through all orders in which threads take turns a few times only.
func TestLinearInAllOrdersOfFewSwitches(t *testing.T) {
	for a := range 22 {
		for b := range 22 {
			for c := range 22 {
				runs(t, sized(2, 2), []int{a, b, c})
				if a%2+b%2+c%2 == 0 {
					runs(t, sized(3, 2), []int{a, b, c, 7})
				}
			}
		}
	}
}

// TestStalledThreadsHoldUpNothingForEver: wherever one thread stops, the others' steps go on, and all calls end once it goes on too.
func TestStalledThreadsHoldUpNothingForEver(t *testing.T) {
	for _, c := range []conf.Config{sized(3, 4), sized(3, 2), sized(api.MaxThreads, 16)} {
		for stop := range 24 {
			s := newScript(t, c)
			s.begin(0, submit(0))
			for range stop {
				s.step(t, 0)
			}
			for range 200 {
				for thread := 1; thread < c.Threads; thread++ {
					if !s.open(thread) && s.moment < 2000 {
						s.begin(thread, submit(thread%4))
					}
					s.step(t, thread)
				}
			}
			s.hold(t)
			s.rounds(t)
			s.hold(t)
		}
	}
}

// clockwork is a front that goroutines use at once.
type clockwork struct {
	front  *front.Front
	moment atomic.Int64
}

// await executes a call step by step, and gives up where a fault holds it up for ever.
func (w *clockwork) await(thread int) (core.Result, bool) {
	for start := time.Now(); time.Since(start) < 20*time.Second; runtime.Gosched() {
		for range 100 {
			if r, ended := w.front.Step(thread); ended {
				return r, true
			}
		}
	}
	return core.Result{}, false
}

// call notes the call's beginning before it begins, and its end after it has ended, so that what overlaps is seen to overlap.
func (w *clockwork) call(t *testing.T, thread int, op core.Op) told {
	c := told{op: op, end: -1, begin: w.moment.Add(1), from: w.front.Now()}
	if w.front.Begin(thread, op) != api.OK {
		t.Errorf("%d cannot begin", thread)
		return c
	}
	r, ended := w.await(thread)
	if !ended {
		t.Errorf("a call of %d does not end", thread)
		return c
	}
	c.result, c.to = r, w.front.Now()
	c.end = w.moment.Add(1)
	return c
}

func (w *clockwork) thread(t *testing.T, thread, calls int, seed int64) []told {
	r := rand.New(rand.NewSource(seed))
	var l []told
	for range calls {
		if r.Intn(3) == 0 {
			w.front.Tick(int64(r.Intn(4)))
		}
		c := w.call(t, thread, randomOp(r, w.front.Now()))
		l = append(l, c)
		if c.end < 0 {
			return l
		}
	}
	return l
}

// watch asks, while the others step, for what may be asked then, until they have done.
func (w *clockwork) watch(t *testing.T, done *atomic.Bool) {
	var before []front.Applied
	var now int64
	for !done.Load() {
		l := w.front.Applied()
		if len(l) < len(before) || !slices.Equal(l[:len(before)], before) {
			t.Error("what was applied changes")
		}
		if n := w.front.Now(); n < now {
			t.Error("the clock goes back")
		} else {
			now = n
		}
		if n := w.front.Waiting(); n < 0 || n > w.front.Threads() {
			t.Error("so many wait:", n)
		}
		before = l
		runtime.Gosched()
	}
}

func linearAtOnce(t *testing.T, c conf.Config, calls int) {
	t.Helper()
	f, e := front.New(c)
	if e != api.OK {
		t.Fatal(e)
	}
	w := &clockwork{front: f}
	all := make([][]told, c.Threads)
	var threads, watcher sync.WaitGroup
	var done atomic.Bool
	watcher.Go(func() { w.watch(t, &done) })
	for thread := range c.Threads {
		threads.Go(func() { all[thread] = w.thread(t, thread, calls, int64(thread+calls)) })
	}
	threads.Wait()
	done.Store(true)
	watcher.Wait()
	if t.Failed() {
		return
	}
	if f.Waiting() != 0 {
		t.Error("all calls have ended, but so many wait:", f.Waiting())
	}
	holdLinear(t, c, all, f.Applied())
	holdTickets(t, f)
}

// holdTickets: each ticket that was given has one outcome, or is queued.
func holdTickets(t *testing.T, f *front.Front) {
	t.Helper()
	var given, found []uint64
	for _, a := range f.Applied() {
		if a.Result.Answer == gate.Admitted {
			given = append(given, a.Result.Ticket)
		}
	}
	for _, o := range f.Core().Log().Since(0) {
		found = append(found, o.Ticket)
	}
	for _, r := range f.Core().Queue() {
		found = append(found, r.Ticket)
	}
	slices.Sort(found)
	if !slices.Equal(given, found) {
		t.Errorf("given are %v, ended or queued %v", given, found)
	}
}

func TestLinearAtOnce(t *testing.T) {
	for _, threads := range []int{1, 2, 3, 8, api.MaxThreads} {
		for _, ring := range []int{2, 8, api.MaxThreads} {
			linearAtOnce(t, sized(threads, ring), 400)
		}
	}
}

// P20.3, P20.4

func TestCallsAtOnce(t *testing.T) {
	const calls = 300
	for _, c := range []conf.Config{sized(4, 4), sized(api.MaxThreads, 16), sized(8, 2)} {
		c.Room = api.MaxRoom
		f, _ := front.New(c)
		var threads sync.WaitGroup
		var out, busy atomic.Int64
		for thread := range c.Threads {
			threads.Go(func() {
				for range calls {
					r, ok := callWithin(t, f, thread, submit(thread%4))
					if !ok {
						return
					}
					switch r.Answer {
					case gate.Admitted:
						out.Add(1)
					case gate.Busy:
						busy.Add(1)
					}
					if p, ok := callWithin(t, f, thread, core.Op{Kind: core.Poll}); !ok {
						return
					} else if p.Answer == gate.Dispatched {
						out.Add(-1)
					} else if p.Answer == gate.Busy {
						busy.Add(1)
					}
				}
			})
		}
		threads.Wait()
		if t.Failed() {
			return
		}
		applied := 2*calls*c.Threads - len(f.Applied())
		if queued := len(f.Core().Queue()); int64(queued) != out.Load() || int64(applied) != busy.Load() {
			t.Errorf("%d are queued, not %d; %d calls were not applied, of which %d were Busy", queued, out.Load(), applied, busy.Load())
		}
		if c.Threads <= c.Ring && busy.Load() != 0 {
			t.Error("so many are Busy, though each thread has a position:", busy.Load())
		}
	}
}

// P20.1: no Tick is lost, whoever else ticks then.
func TestTicksAtOnce(t *testing.T) {
	const threads, ticks = 8, 5000
	f := fresh(t, 4, 4)
	var all sync.WaitGroup
	for n := range threads {
		all.Go(func() {
			for range ticks {
				before := f.Now()
				f.Tick(int64(n))
				if f.Now() < before+int64(n) {
					t.Error("a Tick is lost")
				}
				f.Tick(-1)
			}
		})
	}
	all.Wait()
	if want := int64(threads * (threads - 1) / 2 * ticks); f.Now() != want {
		t.Errorf("it is %d, not %d", f.Now(), want)
	}
}

// P20.1: while threads claim positions, what waits is counted at one moment.
func TestWaitingAtOnce(t *testing.T) {
	const threads = 4
	f := fresh(t, threads, threads)
	var all sync.WaitGroup
	var done atomic.Bool
	for thread := range threads {
		all.Go(func() {
			for !done.Load() {
				if _, ok := callWithin(t, f, thread, core.Op{Kind: core.Poll}); !ok {
					return
				}
			}
		})
	}
	for range 300000 {
		if n := f.Waiting(); n < 0 || n > threads {
			t.Error("so many wait:", n)
			break
		}
	}
	done.Store(true)
	all.Wait()
}
