package lock_test

import (
	"math"
	"math/rand"
	"testing"

	"overfall/core"
	"overfall/gate"
	"overfall/lock"
)

// plainBox restates a box by what it tells.
type plainBox struct {
	state  int
	op     core.Op
	result core.Result
}

func (p *plainBox) post(op core.Op) bool {
	if p.state != 0 {
		return false
	}
	*p = plainBox{state: 1, op: op}
	return true
}

func (p *plainBox) finish(r core.Result) bool {
	if p.state != 1 {
		return false
	}
	*p = plainBox{state: 2, result: r}
	return true
}

func (p *plainBox) collect() (core.Result, bool) {
	if p.state != 2 {
		return core.Result{}, false
	}
	r := p.result
	*p = plainBox{}
	return r, true
}

// same holds what a box tells, without changing it, against its restatement.
func (p *plainBox) same(t *testing.T, b *lock.Box) {
	t.Helper()
	for range 2 {
		if b.State() != p.state {
			t.Fatalf("the state is %d, not %d", b.State(), p.state)
		}
		if op, ok := b.Op(); op != p.op || ok != (p.state == 1) {
			t.Fatalf("the operation is %+v, %v, not %+v in state %d", op, ok, p.op, p.state)
		}
	}
}

// collected holds what is collected against the restatement.
func (p *plainBox) collected(t *testing.T, b *lock.Box) {
	t.Helper()
	r, ok := b.Collect()
	if want, may := p.collect(); r != want || ok != may {
		t.Fatalf("collected %+v, %v, not %+v, %v", r, ok, want, may)
	}
}

// ops differ in each field, the zero value among them.
func ops() []core.Op {
	return []core.Op{
		{}, {Kind: core.Poll}, {Kind: core.Drain, N: 9}, {Kind: 255}, {Tier: 3}, {Cohort: 127}, {N: -1},
		{Kind: 255, Tier: math.MaxInt, Cohort: math.MinInt, N: math.MaxInt64},
		{Kind: 128, Tier: math.MinInt, Cohort: math.MaxInt, N: math.MinInt64},
	}
}

func results() []core.Result {
	return []core.Result{
		{}, {Answer: gate.Done}, {Answer: 255}, {Ticket: 1}, {Tier: 3}, {Cohort: 127}, {Sojourn: -1},
		{Answer: 255, Ticket: math.MaxUint64, Tier: math.MaxInt, Cohort: math.MinInt, Sojourn: math.MaxInt64},
		{Answer: 128, Ticket: 1 << 63, Tier: math.MinInt, Cohort: math.MaxInt, Sojourn: math.MinInt64},
	}
}

// boxIn returns a box in a state, and its restatement.
func boxIn(state int, op core.Op, r core.Result) (*lock.Box, *plainBox) {
	b, p := lock.NewBox(), &plainBox{}
	if state > 0 {
		b.Post(op)
		p.post(op)
	}
	if state > 1 {
		b.Finish(r)
		p.finish(r)
	}
	return b, p
}

// P19.2

func TestStatesNumbers(t *testing.T) {
	if states := [...]int{lock.Idle, lock.Posted, lock.Done}; states != [...]int{0, 1, 2} {
		t.Error(states)
	}
}

func TestNewBoxIsIdle(t *testing.T) {
	b := lock.NewBox()
	if b == nil {
		t.Fatal("no box")
	}
	(&plainBox{}).same(t, b)
	if r, ok := b.Collect(); r != (core.Result{}) || ok {
		t.Error("collected from a new box:", r, ok)
	}
	if b.Finish(core.Result{Ticket: 1}) {
		t.Error("finished nothing")
	}
	(&plainBox{}).same(t, b)
}

func TestBoxRound(t *testing.T) {
	b := lock.NewBox()
	for _, op := range ops() {
		for _, want := range results() {
			if b.State() != lock.Idle || !b.Post(op) || b.State() != lock.Posted {
				t.Fatalf("%+v is not posted", op)
			}
			if got, ok := b.Op(); got != op || !ok {
				t.Fatalf("posted %+v, but it is %+v, %v", op, got, ok)
			}
			if !b.Finish(want) || b.State() != lock.Done {
				t.Fatalf("%+v is not finished with %+v", op, want)
			}
			if got, ok := b.Collect(); got != want || !ok {
				t.Fatalf("finished %+v, but collected %+v, %v", want, got, ok)
			}
		}
	}
	(&plainBox{}).same(t, b)
}

// TestEachCallInEachState: a call that is refused changes nothing of what comes after it.
func TestEachCallInEachState(t *testing.T) {
	op, r := ops()[7], results()[7]
	calls := []func(b *lock.Box, p *plainBox) (bool, bool){
		func(b *lock.Box, p *plainBox) (bool, bool) { return b.Post(ops()[8]), p.post(ops()[8]) },
		func(b *lock.Box, p *plainBox) (bool, bool) { return b.Post(core.Op{}), p.post(core.Op{}) },
		func(b *lock.Box, p *plainBox) (bool, bool) { return b.Finish(results()[8]), p.finish(results()[8]) },
		func(b *lock.Box, p *plainBox) (bool, bool) {
			return b.Finish(core.Result{}), p.finish(core.Result{})
		},
		func(b *lock.Box, p *plainBox) (bool, bool) { p.collected(t, b); return true, true },
	}
	for state := range 3 {
		for n, call := range calls {
			b, p := boxIn(state, op, r)
			p.same(t, b)
			if got, want := call(b, p); got != want {
				t.Errorf("call %d in state %d: %v, not %v", n, state, got, want)
			}
			p.same(t, b)
			p.collected(t, b)
			p.same(t, b)
		}
	}
}

func TestBoxCollectsOnce(t *testing.T) {
	b, _ := boxIn(lock.Done, ops()[7], results()[7])
	if r, ok := b.Collect(); r != results()[7] || !ok {
		t.Fatal(r, ok)
	}
	for range 3 {
		if r, ok := b.Collect(); r != (core.Result{}) || ok {
			t.Fatal("collected again:", r, ok)
		}
	}
}

func TestBoxesShareNothing(t *testing.T) {
	a, p := boxIn(lock.Posted, ops()[7], core.Result{})
	b, q := boxIn(lock.Done, ops()[8], results()[8])
	p.same(t, a)
	q.same(t, b)
	a.Finish(results()[7])
	p.finish(results()[7])
	q.collected(t, b)
	p.collected(t, a)
}

func TestValuesAreTheBoxesOwn(t *testing.T) {
	op, r := ops()[7], results()[7]
	b := lock.NewBox()
	b.Post(op)
	op.N++
	got, _ := b.Op()
	if got != ops()[7] {
		t.Error("the caller's operation is the box's")
	}
	got.Tier--
	if again, _ := b.Op(); again != ops()[7] {
		t.Error("the operation that was told is the box's")
	}
	b.Finish(r)
	r.Ticket--
	if got, _ := b.Collect(); got != results()[7] {
		t.Error("the caller's result is the box's")
	}
}

func randomOp(r *rand.Rand) core.Op {
	return core.Op{Kind: byte(r.Intn(256)), Tier: r.Int(), Cohort: -r.Int(), N: int64(r.Uint64())}
}

func randomResult(r *rand.Rand) core.Result {
	return core.Result{Answer: byte(r.Intn(256)), Ticket: r.Uint64(), Tier: r.Int(), Cohort: -r.Int(), Sojourn: int64(r.Uint64())}
}

// TestBoxInAnyOrder compares random calls with the restatement.
func TestBoxInAnyOrder(t *testing.T) {
	r := rand.New(rand.NewSource(192))
	for range 200 {
		b, p := lock.NewBox(), &plainBox{}
		for range 200 {
			switch op, result := randomOp(r), randomResult(r); r.Intn(3) {
			case 0:
				if got, want := b.Post(op), p.post(op); got != want {
					t.Fatal("Post is not", want)
				}
			case 1:
				if got, want := b.Finish(result), p.finish(result); got != want {
					t.Fatal("Finish is not", want)
				}
			case 2:
				p.collected(t, b)
			}
			p.same(t, b)
		}
	}
}

func TestNilBox(t *testing.T) {
	var b *lock.Box
	for n, op := range ops() {
		if b.Post(op) || b.Finish(results()[n]) {
			t.Error("posted into or finished no box")
		}
		if r, ok := b.Collect(); r != (core.Result{}) || ok {
			t.Error("collected from no box:", r, ok)
		}
		(&plainBox{}).same(t, b)
	}
}

// finishNext spins without a pause at first, since a state that is stored before its data betrays itself only for a moment.
func finishNext(t *testing.T, b *lock.Box) bool {
	return retried(func() bool {
		for range 1000 {
			if op, ok := b.Op(); ok {
				if !b.Finish(core.Result{Answer: op.Kind, Ticket: uint64(op.N), Tier: op.Tier, Cohort: op.Cohort, Sojourn: op.N}) {
					t.Error("a posted box could not be finished")
				}
				return true
			}
		}
		return false
	})
}

func collectNext(b *lock.Box) (r core.Result, ok bool) {
	ok = retried(func() bool {
		for range 1000 {
			if r, ok = b.Collect(); ok {
				return true
			}
		}
		return false
	})
	return r, ok
}

// TestBoxBetweenTwoThreads: one thread posts and collects, the other one finishes, and each sees the whole of what the other one stored.
func TestBoxBetweenTwoThreads(t *testing.T) {
	const rounds = 2000
	var boxes [16]*lock.Box // which lie differently in the lines of memory
	for i := range boxes {
		boxes[i] = lock.NewBox()
	}
	call := func(b *lock.Box, n int) bool {
		if !b.Post(core.Op{Kind: byte(n), Tier: n, Cohort: -n, N: int64(n)}) {
			t.Error("an idle box could not be posted into")
		}
		got, ok := collectNext(b)
		if want := (core.Result{Answer: byte(n), Ticket: uint64(n), Tier: n, Cohort: -n, Sojourn: int64(n)}); got != want {
			t.Errorf("collected %+v, not %+v", got, want)
		}
		return ok
	}
	done := together(2, func(id int) bool {
		for n := range rounds * len(boxes) {
			b := boxes[n/rounds]
			if id == 0 && !finishNext(t, b) || id == 1 && !call(b, n) {
				return false
			}
		}
		return true
	})
	if done != 2 {
		t.Error("a call was not seen")
	}
	for _, b := range boxes {
		(&plainBox{}).same(t, b)
	}
}
