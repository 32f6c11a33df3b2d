package front_test

import (
	"math"
	"math/rand"
	"slices"
	"testing"

	"overfall/api"
	"overfall/conf"
	"overfall/core"
	"overfall/fix"
	"overfall/front"
	"overfall/gate"
)

// plainFront restates the chapter, with ring, lock and boxes as plain numbers; of the layers below it has the core alone.
type plainFront struct {
	config   conf.Config
	core     *core.Core
	clock    int64
	tail     int
	head     int
	sequence []int
	values   []int
	owner    int // -1: none
	threads  []plainThread
	applied  []front.Applied
}

type plainThread struct {
	where    int
	step     int // of an act, from 1 on
	position int
	left     int
	served   int
	op       core.Op
	posted   bool
	done     bool
	answer   core.Result
}

func newPlainFront(c conf.Config) *plainFront {
	k, _ := core.New(c)
	p := &plainFront{config: c, core: k, owner: -1, threads: make([]plainThread, c.Threads), values: make([]int, c.Ring)}
	for n := range c.Ring {
		p.sequence = append(p.sequence, n)
	}
	return p
}

func (p *plainFront) begin(thread int, op core.Op) api.Errno {
	if thread < 0 || thread >= len(p.threads) {
		return api.ErrArg
	}
	if p.threads[thread].where != front.Rest {
		return api.ErrBusy
	}
	p.threads[thread] = plainThread{where: front.Post, op: op}
	return api.OK
}

func (p *plainFront) where(thread int) int {
	if thread < 0 || thread >= len(p.threads) {
		return front.Rest
	}
	return p.threads[thread].where
}

func (p *plainFront) tick(d int64) {
	switch {
	case d < 0:
	case d > math.MaxInt64-p.clock:
		p.clock = math.MaxInt64
	default:
		p.clock += d
	}
}

func (p *plainFront) step(thread int) (core.Result, bool) {
	if p.where(thread) == front.Rest {
		return core.Result{}, false
	}
	t := &p.threads[thread]
	switch t.where {
	case front.Post:
		t.posted, t.where, t.step = true, front.Join, 1
	case front.Join:
		return p.join(thread)
	case front.Wait:
		t.where = front.Lock
		if t.done {
			r := t.answer
			*t = plainThread{}
			return r, true
		}
	case front.Lock:
		t.where = front.Wait
		if p.owner < 0 {
			p.owner, t.where, t.step, t.left = thread, front.Take, 1, p.config.Threads
		}
	case front.Take:
		p.pop(t)
	case front.Apply:
		s := &p.threads[t.served]
		s.answer = p.core.Do(p.clock, s.op)
		p.applied = append(p.applied, front.Applied{Thread: t.served, Clock: p.clock, Op: s.op, Result: s.answer})
		t.where = front.Tell
	case front.Tell:
		p.threads[t.served].done = true
		t.left--
		t.where, t.step = front.Take, 1
		if t.left == 0 {
			t.where = front.Free
		}
	case front.Free:
		p.owner, t.where = -1, front.Wait
	}
	return core.Result{}, false
}

func (p *plainFront) join(thread int) (core.Result, bool) {
	t, slots := &p.threads[thread], p.config.Ring
	if p.config.Threads <= slots && t.step == 1 {
		t.position, t.step = p.tail, 4
		p.tail++
		return core.Result{}, false
	}
	switch t.step {
	case 1:
		t.position, t.step = p.tail, 2
	case 2:
		ahead := p.sequence[t.position%slots] - t.position
		if ahead < 0 {
			*t = plainThread{}
			return core.Result{Answer: gate.Busy}, true
		}
		t.step = 3
		if ahead > 0 {
			t.step = 1
		}
	case 3:
		t.step = 1
		if p.tail == t.position {
			p.tail, t.step = p.tail+1, 4
		}
	case 4:
		p.values[t.position%slots] = thread
		p.sequence[t.position%slots] = t.position + 1
		t.where = front.Wait
	}
	return core.Result{}, false
}

// pop has no step that begins anew: the owner of the lock pops alone, so neither its head nor what lies there is taken by another.
func (p *plainFront) pop(t *plainThread) {
	slot := t.position % p.config.Ring
	switch t.step {
	case 1:
		t.position = p.head
	case 2:
		if p.sequence[slot] != t.position+1 {
			t.where = front.Free
			return
		}
	case 3:
		p.head++
	case 4:
		t.served, t.where = p.values[slot], front.Apply
		p.sequence[slot] = t.position + p.config.Ring
	}
	t.step++
}

// same holds all that a front tells against the restatement.
func (p *plainFront) same(t *testing.T, f *front.Front) {
	t.Helper()
	for thread := -1; thread <= len(p.threads); thread++ {
		if f.Where(thread) != p.where(thread) {
			t.Fatalf("next for %d is %d, not %d", thread, f.Where(thread), p.where(thread))
		}
	}
	if f.Now() != p.clock || f.Threads() != p.config.Threads || f.Waiting() != p.tail-p.head {
		t.Fatalf("now is %d, not %d, or %d wait, not %d", f.Now(), p.clock, f.Waiting(), p.tail-p.head)
	}
	if got := f.Applied(); !slices.Equal(got, p.applied) {
		t.Fatalf("applied were %+v, not %+v", got, p.applied)
	}
	k := f.Core()
	if k.Clock() != p.core.Clock() || k.Ticket() != p.core.Ticket() || k.Phase() != p.core.Phase() ||
		k.Level() != p.core.Level() || !slices.Equal(k.Queue(), p.core.Queue()) {
		t.Fatal("the core is not where it should be")
	}
}

// randomConfig has few threads, often more of them than positions.
func randomConfig(r *rand.Rand) conf.Config {
	c := sized(1+r.Intn(6), 2<<r.Intn(3))
	if r.Intn(8) == 0 {
		c = sized(1+r.Intn(api.MaxThreads), 2<<r.Intn(6))
	}
	c.Room, c.Target, c.Interval = 1+r.Intn(8), 9, 20
	return c
}

// randomOp is seldom a Drain, after which all is the same.
func randomOp(r *rand.Rand, now int64) core.Op {
	switch kind := r.Intn(200); {
	case kind < 100:
		return core.Op{Kind: core.Submit, Tier: r.Intn(5), Cohort: r.Intn(api.Cohorts), N: now + int64(r.Intn(120)) - 9}
	case kind < 170:
		return core.Op{Kind: core.Poll, N: int64(r.Intn(3))}
	case kind < 190:
		return core.Op{Kind: core.Sample, N: int64(r.Intn(3)) * int64(fix.One)}
	case kind < 191:
		return core.Op{Kind: core.Drain, N: now + int64(r.Intn(200))}
	}
	return core.Op{Kind: byte(r.Intn(256)), Tier: r.Int(), Cohort: -r.Int(), N: int64(r.Uint64())}
}

func randomTick(r *rand.Rand) int64 {
	if r.Intn(400) == 0 {
		return math.MaxInt64 - int64(r.Intn(100))
	}
	if r.Intn(30) == 0 {
		return -int64(r.Uint64() >> 1)
	}
	return int64(r.Intn(8))
}

// P20.1, P20.2, P2

func TestAgainstRestatement(t *testing.T) {
	r := rand.New(rand.NewSource(202))
	for range 600 {
		c := randomConfig(r)
		f, e := front.New(c)
		if e != api.OK {
			t.Fatal(e)
		}
		p := newPlainFront(c)
		thread := 0
		for range 300 {
			if r.Intn(3) > 0 { // some run on for a while
				thread = r.Intn(c.Threads+2) - 1
			}
			switch kind := r.Intn(20); {
			case kind == 0:
				d := randomTick(r)
				f.Tick(d)
				p.tick(d)
			case kind < 4:
				op := randomOp(r, p.clock)
				if got, want := f.Begin(thread, op), p.begin(thread, op); got != want {
					t.Fatalf("%d begins: %d, not %d", thread, got, want)
				}
			default:
				got, ended := f.Step(thread)
				if want, ends := p.step(thread); got != want || ended != ends {
					t.Fatalf("a step of %d: %+v, %v, not %+v, %v", thread, got, ended, want, ends)
				}
			}
			p.same(t, f)
		}
	}
}

// mayCall: a Call is promised to end if all the others rest.
func (p *plainFront) mayCall(thread int) bool {
	for other, s := range p.threads {
		if other != thread && s.where != front.Rest {
			return false
		}
	}
	return true
}

func (p *plainFront) call(thread int, op core.Op) core.Result {
	if p.begin(thread, op) != api.OK {
		return core.Result{}
	}
	for {
		if r, ended := p.step(thread); ended {
			return r
		}
	}
}

// P20.3

func TestCallAgainstRestatement(t *testing.T) {
	r := rand.New(rand.NewSource(203))
	for range 300 {
		c := randomConfig(r)
		f, _ := front.New(c)
		p := newPlainFront(c)
		for range 60 {
			d, thread, op := randomTick(r), r.Intn(c.Threads+2)-1, randomOp(r, p.clock)
			f.Tick(d)
			p.tick(d)
			if !p.mayCall(thread) {
				continue
			}
			if r.Intn(9) == 0 {
				f.Begin(thread, op) // then its Call has an error
				p.begin(thread, op)
			}
			if got, want := call(t, f, thread, op), p.call(thread, op); got != want {
				t.Fatalf("a call of %d: %+v, not %+v", thread, got, want)
			}
			p.same(t, f)
			for ended := p.where(thread) == front.Rest; !ended; {
				f.Step(thread)
				_, ended = p.step(thread)
				p.same(t, f)
			}
		}
	}
}
