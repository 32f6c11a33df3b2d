package core_test

import (
	"math/rand"
	"slices"
	"testing"

	"overfall/api"
	"overfall/conf"
	"overfall/core"
	"overfall/fix"
	"overfall/gate"
	"overfall/slab"
	"overfall/tally"
)

// step is a call as seen from outside.
type step struct {
	now    int64
	op     core.Op
	result core.Result
	before []slab.Req // the queue
	after  []slab.Req
	gone   []tally.Outcome
}

func runStep(c *core.Core, s call) step {
	before, ended := c.Queue(), c.Log().Len()
	result := c.Do(s.now, s.op)
	return step{c.Clock(), s.op, result, before, c.Queue(), c.Log().Since(ended)}
}

func runAll(t *testing.T, config conf.Config, script []call) []step {
	t.Helper()
	c := newCore(t, config)
	var steps []step
	for _, s := range script {
		steps = append(steps, runStep(c, s))
	}
	return steps
}

// lessCritical reports whether one of the requests has a less critical tier.
func lessCritical(queue []slab.Req, tier int) bool {
	return slices.ContainsFunc(queue, func(r slab.Req) bool { return r.Tier > tier })
}

func without(queue []slab.Req, ticket uint64) []slab.Req {
	return slices.DeleteFunc(slices.Clone(queue), func(r slab.Req) bool { return r.Ticket == ticket })
}

// P4: each ticket has at most one outcome, those without one are queued, and none is dispatched whose deadline has passed.
func TestEachTicketHasOneOutcome(t *testing.T) {
	r := rand.New(rand.NewSource(4))
	for round := range 400 {
		config := randomConfig(r)
		c := newCore(t, config)
		deadlines := map[uint64]int64{}
		for _, s := range randomScript(r, config, drainsOf(round)) {
			step := runStep(c, s)
			if step.result.Answer == gate.Admitted {
				deadlines[step.result.Ticket] = min(s.op.N, step.now+config.Horizon)
			}
			for _, o := range step.gone {
				if o.Why == tally.Out && deadlines[o.Ticket] <= step.now {
					t.Fatalf("dispatched at %d though due at %d: %v", step.now, deadlines[o.Ticket], o)
				}
				if o.Why == tally.Late && deadlines[o.Ticket] > step.now {
					t.Fatalf("late at %d though due at %d: %v", step.now, deadlines[o.Ticket], o)
				}
			}
		}
		met := map[uint64]bool{}
		for o := range c.Log().All(0) {
			if met[o.Ticket] || o.Ticket == 0 || o.Ticket > c.Ticket() {
				t.Fatal("a second outcome, or that of no ticket:", o)
			}
			met[o.Ticket] = true
		}
		for _, q := range c.Queue() {
			if met[q.Ticket] {
				t.Fatal("queued, but it has an outcome or is queued twice:", q)
			}
			met[q.Ticket] = true
		}
		if uint64(len(met)) != c.Ticket() || len(deadlines) != len(met) {
			t.Fatal("tickets are lost:", len(met), "of", c.Ticket())
		}
	}
}

// P5: nobody is rejected or shed by level, room or waiting time while a request of a less critical tier is queued.
func TestLessCriticalOnesAreShedFirst(t *testing.T) {
	r := rand.New(rand.NewSource(5))
	for round := range 400 {
		config := randomConfig(r)
		for _, s := range runAll(t, config, randomScript(r, config, drainsOf(round))) {
			queue := s.before
			for _, o := range s.gone {
				queue = without(queue, o.Ticket)
				if (o.Why == tally.Cut || o.Why == tally.Full || o.Why == tally.Codel) && lessCritical(queue, o.Tier) {
					t.Fatalf("%+v: %+v is shed before a less critical one", s, o)
				}
			}
			if (s.result.Answer == gate.Cutoff || s.result.Answer == gate.Full) && lessCritical(s.after, s.op.Tier) {
				t.Fatalf("%+v is rejected while a less critical one is queued", s)
			}
			if s.result.Answer == gate.Dispatched && slices.ContainsFunc(s.after, func(q slab.Req) bool { return q.Tier < s.result.Tier }) {
				t.Fatalf("%+v is dispatched before a more critical one", s)
			}
		}
	}
}

// P5: a request with a more critical key is admitted whenever one with a less critical key would be.
func TestMoreCriticalKeysAreAdmitted(t *testing.T) {
	r := rand.New(rand.NewSource(6))
	admittedOf := [2]int{}
	for range 60 {
		config := randomConfig(r)
		script := randomScript(r, config, 0)
		script = script[:r.Intn(len(script))]
		now := int64(0)
		for _, s := range script {
			now = max(now, s.now)
		}
		admits := false // a less critical one
		for key := config.Tiers*api.Cohorts - 1; key >= 0; key -= 1 + r.Intn(40) {
			c := newCore(t, config)
			for _, s := range script {
				c.Do(s.now, s.op)
			}
			a := c.Do(now, submit(key/api.Cohorts, key%api.Cohorts, now+1)).Answer
			if admits && a != gate.Admitted {
				t.Fatalf("key %d: %s, but a less critical one is admitted", key, gate.Name(a))
			}
			admits = a == gate.Admitted
			if admits {
				admittedOf[1]++
			} else {
				admittedOf[0]++
			}
		}
	}
	if admittedOf[0] < 50 || admittedOf[1] < 50 {
		t.Error("too few of one kind:", admittedOf)
	}
}

// P8: after Drain no request is admitted, and once the core is drained, it stays so, with an empty queue.
func TestAfterDrainNothingIsAdmitted(t *testing.T) {
	r := rand.New(rand.NewSource(8))
	for range 400 {
		config := randomConfig(r)
		c := newCore(t, config)
		phase := byte(core.Running)
		for _, s := range randomScript(r, config, 60) {
			result := c.Do(s.now, s.op)
			if c.Phase() < phase || phase == core.Running && c.Phase() != phase && s.op.Kind != core.Drain {
				t.Fatal("from phase", phase, "to", c.Phase())
			}
			phase = c.Phase()
			if s.op.Kind == core.Drain && phase == core.Running {
				t.Fatal("it runs on after a Drain")
			}
			if phase != core.Running && (result.Answer == gate.Admitted || s.op.Kind == core.Submit && result.Answer != gate.Draining) {
				t.Fatal("a Submit after a Drain is answered by", gate.Name(result.Answer))
			}
			if phase == core.Drained && len(c.Queue()) != 0 {
				t.Fatal("drained, but queued are", c.Queue())
			}
			if phase == core.Drained && s.op.Kind == core.Poll && result.Answer != gate.Closed && result.Answer != gate.Dispatched {
				t.Fatal("a Poll of a drained core is answered by", gate.Name(result.Answer))
			}
		}
	}
}

// overload is a script of many Submits, few Polls and high Samples, as long as the time.
func overload(r *rand.Rand, config conf.Config, until int64) []call {
	var script []call
	for now := range until {
		for range r.Intn(4) {
			script = append(script, call{now, submit(r.Intn(config.Tiers), r.Intn(api.Cohorts), now+1+r.Int63n(200))})
		}
		if r.Intn(3) == 0 {
			script = append(script, call{now, poll()})
		}
		if r.Intn(5) == 0 {
			script = append(script, call{now, core.Op{Kind: core.Sample, N: r.Int63n(1 << 34)}})
		}
	}
	return script
}

// recovery polls twice at each time, has a Sample at the setpoint at most, and a Submit or none; so two Submits at most come before a Poll is owed to each of them.
func recovery(r *rand.Rand, config conf.Config, from, until int64) []call {
	var script []call
	for now := from; now < until; now++ {
		script = append(script, call{now, poll()}, call{now, core.Op{Kind: core.Sample, N: int64(config.Setpoint) - r.Int63n(1<<30)}})
		if r.Intn(4) > 0 {
			script = append(script, call{now, submit(r.Intn(config.Tiers), r.Intn(api.Cohorts), now+config.Target+r.Int63n(50))})
		}
		script = append(script, call{now, poll()})
	}
	return script
}

// burst restates P24.1: the least bound on a run's Submits beyond half of its Polls, rounded down.
func burst(steps []step) int {
	most := 0
	for from := range steps {
		submits, polls := 0, 0
		for _, s := range steps[from:] {
			switch s.op.Kind {
			case core.Submit:
				submits++
			case core.Poll:
				polls++
			}
			most = max(most, submits-polls/2)
		}
	}
	return most
}

// P6, by the bounds of P24.2 and P24.3: the controller is quiet, and later on admits and dispatches all tiers, once requests arrive no faster than they are served.
func TestItRecovers(t *testing.T) {
	r := rand.New(rand.NewSource(24))
	for range 40 {
		config := randomConfig(r)
		config.Tiers = 1 + r.Intn(2)
		config.Target = 10 + r.Int63n(20)
		config.Horizon = config.Target + r.Int63n(100)
		config.Setpoint = fix.One / 2
		from := int64(100)
		script := append(overload(r, config, from), recovery(r, config, from, from+500)...)
		steps := runAll(t, config, script)
		calm := slices.DeleteFunc(slices.Clone(steps), func(s step) bool { return s.now < from })
		const gap = 1
		s := int64(burst(calm))
		if s > int64(config.Room) || (2*s+1)*gap >= config.Target {
			t.Fatal("the script is too hard:", s, config)
		}
		quiet := from + (2*(int64(config.Room)+s)+1)*gap
		open := max(quiet, from+(config.Most()+1)*gap)
		last := calm[len(calm)-1]
		if open+config.Target >= last.now {
			t.Fatal("the script is too short:", open)
		}
		holdRecovered(t, config, calm, quiet, open)
	}
}

func holdRecovered(t *testing.T, config conf.Config, steps []step, quiet, open int64) {
	t.Helper()
	last := steps[len(steps)-1].now
	out := map[uint64]bool{}
	for _, s := range steps {
		for _, o := range s.gone {
			out[o.Ticket] = out[o.Ticket] || o.Why == tally.Out
			if s.now > quiet && (o.Why == tally.Full || o.Why == tally.Codel || o.Why == tally.Out && o.Sojourn >= config.Target) {
				t.Fatalf("quiet from %d on, but at %d: %+v", quiet, s.now, o)
			}
		}
		if s.now > quiet && s.result.Answer == gate.Full {
			t.Fatalf("quiet from %d on, but at %d it is full", quiet, s.now)
		}
		if s.now > open && s.op.Kind == core.Submit && s.result.Answer != gate.Admitted {
			t.Fatalf("open from %d on, but at %d: %+v", open, s.now, s.result)
		}
	}
	for _, s := range steps {
		if s.now > open && s.now+config.Target < last && s.result.Answer == gate.Admitted && !out[s.result.Ticket] {
			t.Fatalf("open from %d on, but of %d is not dispatched: %+v", open, s.now, s.result)
		}
	}
}
