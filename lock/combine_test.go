package lock_test

import (
	"math/rand"
	"slices"
	"testing"

	"overfall/api"
	"overfall/audit"
	"overfall/conf"
	"overfall/core"
	"overfall/fix"
	"overfall/gate"
	"overfall/lock"
)

// crew is threads that share a core by the chapter's means alone: core, steps and whose are touched by the owner of the lock only.
type crew struct {
	config conf.Config
	lock   *lock.Lock
	boxes  []*lock.Box
	core   *core.Core
	steps  []audit.Step
	whose  []int // thread of each step
}

// hand is one thread of a crew, each move of which is one call of a lock or a box.
type hand struct {
	*crew
	id      int
	next    func(h *hand, t *testing.T)
	box     int // that the owner is at
	answer  core.Result
	ops     []core.Op
	asked   int // of ops
	results []core.Result
}

func newCrew(t *testing.T, r *rand.Rand, threads, calls int) []*hand {
	t.Helper()
	config := conf.Default()
	config.Room, config.Target, config.Interval = 6, 9, 20
	k, e := core.New(config)
	if e != api.OK {
		t.Fatal(e)
	}
	c := &crew{config: config, lock: lock.NewLock(), core: k}
	var hands []*hand
	for id := range threads {
		c.boxes = append(c.boxes, lock.NewBox())
		h := &hand{crew: c, id: id, next: (*hand).post}
		for n := range calls {
			h.ops = append(h.ops, callOf(r, n, calls))
		}
		hands = append(hands, h)
	}
	return hands
}

// callOf is a random call; only those near the end may be Drains.
func callOf(r *rand.Rand, n, calls int) core.Op {
	switch kind := r.Intn(20); {
	case kind < 10:
		return core.Op{Kind: core.Submit, Tier: r.Intn(5), Cohort: r.Intn(api.Cohorts), N: int64(r.Intn(20 * calls))}
	case kind < 17:
		return core.Op{Kind: core.Poll}
	case kind < 18:
		return core.Op{Kind: core.Sample, N: int64(r.Intn(3)) * int64(fix.One)}
	case kind < 19 && n > calls-3:
		return core.Op{Kind: core.Drain, N: int64(r.Intn(20 * calls))}
	}
	return core.Op{Kind: byte(4 + r.Intn(252))}
}

func (h *hand) ended() bool { return len(h.results) == len(h.ops) }

func (h *hand) move(t *testing.T) { h.next(h, t) }

func (h *hand) post(t *testing.T) {
	if h.ended() {
		return // others still move
	}
	if !h.boxes[h.id].Post(h.ops[h.asked]) {
		t.Errorf("%d cannot post call %d", h.id, h.asked)
	}
	h.asked++
	h.next = (*hand).collect
}

func (h *hand) collect(t *testing.T) {
	h.next = (*hand).try
	if r, ok := h.boxes[h.id].Collect(); ok {
		h.results = append(h.results, r)
		h.next = (*hand).post
	}
}

func (h *hand) try(t *testing.T) {
	h.next = (*hand).collect
	if h.lock.Try(h.id) {
		h.box, h.next = 0, (*hand).apply
	}
}

func (h *hand) apply(t *testing.T) {
	op, ok := h.boxes[h.box].Op()
	if !ok {
		h.toNextBox()
		return
	}
	step := audit.Run(h.core, int64(len(h.steps)), op)
	h.steps, h.whose = append(h.steps, step), append(h.whose, h.box)
	h.answer, h.next = step.Result, (*hand).tell
}

func (h *hand) tell(t *testing.T) {
	if !h.boxes[h.box].Finish(h.answer) {
		t.Errorf("%d cannot finish the call of %d", h.id, h.box)
	}
	h.toNextBox()
}

func (h *hand) toNextBox() {
	h.box++
	h.next = (*hand).apply
	if h.box == len(h.boxes) {
		h.next = (*hand).free
	}
}

func (h *hand) free(t *testing.T) {
	if id, ok := h.lock.Owner(); id != h.id || !ok {
		t.Errorf("%d applies calls, but the owner is %d, %v", h.id, id, ok)
	}
	if !h.lock.Free(h.id) {
		t.Errorf("%d cannot free its lock", h.id)
	}
	h.next = (*hand).collect
}

// check holds what all hands were told against a core that executes the same calls one by one, and against the rules of a history.
func check(t *testing.T, hands []*hand) {
	t.Helper()
	c := hands[0].crew
	if id, ok := c.lock.Owner(); ok {
		t.Fatal("the lock is kept by", id)
	}
	if got := audit.Check(c.config, c.steps); got.At != -1 {
		t.Fatalf("%s: %+v", audit.Name(got.Rule), c.steps[:got.At+1])
	}
	ops, results := make([][]core.Op, len(hands)), make([][]core.Result, len(hands))
	again, _ := core.New(c.config)
	for n, step := range c.steps {
		id := c.whose[n]
		ops[id], results[id] = append(ops[id], step.Op), append(results[id], again.Do(int64(n), step.Op))
	}
	for id, h := range hands {
		if !slices.Equal(ops[id], h.ops) {
			t.Fatalf("of %d were executed %+v, not %+v", id, ops[id], h.ops)
		}
		if !slices.Equal(results[id], h.results) {
			t.Fatalf("%d was answered %+v, not %+v", id, h.results, results[id])
		}
		if c.boxes[id].State() != lock.Idle {
			t.Fatalf("the box of %d ends in state %d", id, c.boxes[id].State())
		}
	}
	checkTickets(t, c)
}

// checkTickets holds the log and the queue against the tickets that were given: each has one outcome, or is queued.
func checkTickets(t *testing.T, c *crew) {
	t.Helper()
	var given, found []uint64
	for _, step := range c.steps {
		if step.Result.Answer == gate.Admitted {
			given = append(given, step.Result.Ticket)
		}
		for _, o := range step.Gone {
			found = append(found, o.Ticket)
		}
	}
	for _, r := range c.core.Queue() {
		found = append(found, r.Ticket)
	}
	slices.Sort(given)
	slices.Sort(found)
	if !slices.Equal(given, found) || uint64(len(given)) != c.core.Ticket() {
		t.Fatalf("given are %v, ended or queued %v, the last one is %d", given, found, c.core.Ticket())
	}
}

// P19.1, P19.2, P4, P5: in random orders of the threads' moves, one at a time, each call is executed once.
func TestCombiningInRandomOrders(t *testing.T) {
	r := rand.New(rand.NewSource(1911))
	busy := func(h *hand) bool { return !h.ended() }
	for range 300 {
		hands := newCrew(t, r, 1+r.Intn(4), 1+r.Intn(12))
		favoured := hands[r.Intn(len(hands))]
		moves := 0
		for ; slices.ContainsFunc(hands, busy) && moves < 100000; moves++ {
			h := favoured
			if r.Intn(3) > 0 {
				h = hands[r.Intn(len(hands))]
			}
			h.move(t)
		}
		check(t, hands)
	}
}

// P19.1, P19.2, P4, P5: the same with threads that run at once; what each one stores plainly, the next one sees.
func TestCombiningAtOnce(t *testing.T) {
	r := rand.New(rand.NewSource(1912))
	for _, threads := range []int{1, 2, 3, 8, api.MaxThreads} {
		hands := newCrew(t, r, threads, 300)
		together(threads, func(id int) bool {
			return retried(func() bool {
				hands[id].move(t)
				return hands[id].ended()
			})
		})
		check(t, hands)
	}
}
