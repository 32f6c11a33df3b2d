package core

import (
	"cmp"
	"slices"

	"overfall/codel"
	"overfall/fix"
	"overfall/gate"
	"overfall/slab"
	"overfall/tally"
)

// effects returns the effect of each kind of call.
func effects() [Drain + 1]func(*Core, Op) Result {
	return [...]func(*Core, Op) Result{
		Submit: (*Core).submit,
		Poll:   (*Core).poll,
		Sample: (*Core).sample,
		Drain:  (*Core).drain,
	}
}

func (c *Core) Do(now int64, op Op) Result {
	if c == nil {
		return Result{}
	}
	c.clock = max(c.clock, now)
	if op.Kind > Drain {
		return Result{Answer: gate.Invalid}
	}
	if refusal := c.refusal(op); refusal != 0 {
		return Result{Answer: refusal}
	}
	c.sweep()
	result := effects()[op.Kind](c, op)
	c.endDraining()
	return result
}

// refusal is the answer to a Submit that is refused whatever is queued, so that not even a sweep is due; otherwise 0.
func (c *Core) refusal(op Op) byte {
	if op.Kind != Submit || c.phase != Running {
		return 0
	}
	verdict := c.judge(op)
	if verdict == gate.Cutoff {
		return 0 // that one comes after the sweep
	}
	return verdict
}

func (c *Core) judge(op Op) byte {
	return gate.Judge(c.config, c.Level(), c.clock, op.Tier, op.Cohort, op.N)
}

func (c *Core) sweep() {
	for _, h := range c.queue.Due(c.clock) {
		c.settle(h, tally.Late)
	}
	c.endDraining()
}

// endDraining is asked after each operation too, since any one may empty the queue, and a Drain may set a limit that has come already.
func (c *Core) endDraining() {
	if c.phase != Draining || c.clock < c.limit && c.queue.Len() > 0 {
		return
	}
	for _, q := range c.allQueued() {
		c.settle(q.handle, tally.Drain)
	}
	c.phase = Drained
}

// settle removes a request from the queue, and adds what became of it to the log.
func (c *Core) settle(h slab.Handle, why byte) tally.Outcome {
	sojourn := c.waited(h)
	r, _ := c.queue.Take(h)
	o := tally.Outcome{Ticket: r.Ticket, Tier: r.Tier, Cohort: r.Cohort, Why: why, At: c.clock, Sojourn: sojourn}
	c.log.Add(o)
	return o
}

func (c *Core) waited(h slab.Handle) int64 {
	r, _ := c.queue.Get(h)
	return fix.Sub(c.clock, r.Arrived)
}

type queued struct {
	handle slab.Handle
	req    slab.Req
}

// allQueued is asked before requests are settled one by one, since the queue may not change while it is iterated.
func (c *Core) allQueued() []queued {
	var all []queued
	for h, r := range c.queue.All() {
		all = append(all, queued{h, r})
	}
	return all
}

func (c *Core) submit(op Op) Result {
	if c.phase != Running {
		return Result{Answer: gate.Draining}
	}
	if verdict := c.judge(op); verdict != 0 {
		return Result{Answer: verdict}
	}
	if !c.makeRoom(op.Tier) {
		return Result{Answer: gate.Full}
	}
	c.ticket++
	c.queue.Put(slab.Req{
		Ticket: c.ticket, Tier: op.Tier, Cohort: op.Cohort,
		Deadline: gate.Deadline(c.config, c.clock, op.N), Arrived: c.clock,
	})
	return Result{Answer: gate.Admitted, Ticket: c.ticket, Tier: op.Tier, Cohort: op.Cohort}
}

// makeRoom reports whether there is room for a request of a tier: a less critical one gives way to it.
func (c *Core) makeRoom(tier int) bool {
	if c.queue.Len() < c.config.Room {
		return true
	}
	last, _ := c.queue.Last()
	if last <= tier {
		return false
	}
	h, _ := c.queue.Tail(last)
	c.settle(h, tally.Full)
	return true
}

func (c *Core) poll(Op) Result {
	if c.phase == Drained {
		return Result{Answer: gate.Closed}
	}
	c.restEmptyTiers()
	t, ok := c.queue.First()
	if !ok {
		return Result{Answer: gate.Empty}
	}
	c.turn(t)
	c.thin(t)
	o := c.settle(c.candidate(t), tally.Out)
	return Result{Answer: gate.Dispatched, Ticket: o.Ticket, Tier: o.Tier, Cohort: o.Cohort, Sojourn: o.Sojourn}
}

func (c *Core) restEmptyTiers() {
	for t := range c.codels {
		if c.queue.Count(t) == 0 {
			c.codels[t] = c.codels[t].Empty()
		}
	}
}

func (c *Core) turn(t int) {
	oldest, _ := c.queue.Head(t)
	c.modes[t] = c.modes[t].Turn(c.config.Mode(), c.clock, c.waited(oldest), c.queue.Count(t))
}

// candidate is the request of a tier that is served next.
func (c *Core) candidate(t int) slab.Handle {
	end := c.queue.Head
	if c.modes[t].Back() {
		end = c.queue.Tail
	}
	h, _ := end(t)
	return h
}

// thin sheds requests as layer 8 decides about the candidates of a tier, which keeps one at least: layer 8 never drops the only one.
func (c *Core) thin(t int) {
	p := c.config.Codel()
	state, decision := c.codels[t].Look(p, c.clock, c.waited(c.candidate(t)), c.queue.Count(t))
	for decision != codel.Keep {
		if c.shedBelow(t) {
			break
		}
		c.settle(c.candidate(t), tally.Codel)
		sojourn, backlog := c.waited(c.candidate(t)), c.queue.Count(t)
		if decision == codel.Once {
			state = state.Note(p, c.clock, sojourn, backlog)
			break
		}
		state, decision = state.More(p, c.clock, sojourn, backlog)
	}
	c.codels[t] = state
}

// shedBelow sheds a request of a less critical tier, and reports whether there was one.
func (c *Core) shedBelow(t int) bool {
	last, _ := c.queue.Last()
	if last == t {
		return false
	}
	h, _ := c.queue.Head(last)
	c.settle(h, tally.Codel)
	return true
}

func (c *Core) sample(op Op) Result {
	c.pid = c.pid.Sample(c.config.Pid(), fix.Q(op.N))
	edge := gate.Edge(c.config, c.Level())
	cut := slices.DeleteFunc(c.allQueued(), func(q queued) bool { return q.key() < edge })
	slices.SortFunc(cut, leastCriticalFirst)
	for _, q := range cut {
		c.settle(q.handle, tally.Cut)
	}
	return Result{Answer: gate.Done}
}

func (q queued) key() int64 {
	return gate.Key(q.req.Tier, q.req.Cohort)
}

func leastCriticalFirst(a, b queued) int {
	return cmp.Or(cmp.Compare(b.key(), a.key()), cmp.Compare(a.req.Ticket, b.req.Ticket))
}

func (c *Core) drain(op Op) Result {
	switch c.phase {
	case Running:
		c.phase, c.limit = Draining, op.N
	case Draining:
		c.limit = min(c.limit, op.N)
	}
	return Result{Answer: gate.Done}
}
