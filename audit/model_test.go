package audit_test

import (
	"math"
	"math/rand"
	"slices"
	"testing"

	"overfall/api"
	"overfall/audit"
	"overfall/conf"
	"overfall/core"
	"overfall/fix"
	"overfall/gate"
	"overfall/slab"
	"overfall/tally"
)

// faultOf restates P17.2 rule by rule, each from the whole history anew.
func faultOf(c conf.Config, steps []audit.Step) audit.Fault {
	for at := range steps {
		for rule := byte(1); rule <= 10; rule++ {
			if !holds(c, rule, steps[:at], steps[at]) {
				return audit.Fault{At: at, Rule: rule}
			}
		}
	}
	return audit.Fault{At: -1}
}

// aliveAfter are those that the steps have admitted and that are not gone, in the order of their admission.
func aliveAfter(c conf.Config, steps []audit.Step) []slab.Req {
	var alive []slab.Req
	for _, s := range steps {
		for _, o := range s.Gone {
			alive = leftBy(alive, o)
		}
		if s.Result.Answer == gate.Admitted {
			r := slab.Req{Ticket: s.Result.Ticket, Tier: s.Result.Tier, Cohort: s.Result.Cohort, Arrived: s.Now}
			r.Deadline = min(s.Op.N, fix.Add(s.Now, c.Horizon))
			alive = append(alive, r)
		}
	}
	return alive
}

func leftBy(alive []slab.Req, o tally.Outcome) []slab.Req {
	return slices.DeleteFunc(slices.Clone(alive), func(r slab.Req) bool { return r.Ticket == o.Ticket })
}

func holds(c conf.Config, rule byte, before []audit.Step, s audit.Step) bool {
	after := aliveAfter(c, append(slices.Clone(before), s))
	right := s.Op.Tier >= 0 && s.Op.Tier < c.Tiers && s.Op.Cohort >= 0 && s.Op.Cohort < 128
	none := func(broken func(r slab.Req) bool) bool { return !slices.ContainsFunc(after, broken) }
	r := s.Result
	switch rule {
	case 1:
		last := int64(0)
		if len(before) > 0 {
			last = before[len(before)-1].Now
		}
		return s.Now >= last
	case 2, 4, 6:
		return goneHolds(rule, aliveAfter(c, before), s)
	case 3:
		return r.Answer != gate.Admitted || s.Op.Kind == core.Submit && right && r.Tier == s.Op.Tier && r.Cohort == s.Op.Cohort && r.Ticket == nextTicket(before)
	case 5:
		return outHolds(s)
	case 7:
		return r.Answer != gate.Dispatched || none(func(q slab.Req) bool { return q.Tier < r.Tier })
	case 8:
		return len(after) <= c.Room
	case 9:
		return s.Op.Kind != core.Submit || right || r.Answer == gate.Invalid || r.Answer == gate.Draining
	}
	return r.Answer == gate.Invalid || r.Answer == gate.Expired || none(func(q slab.Req) bool { return q.Deadline <= s.Now })
}

func goneHolds(rule byte, alive []slab.Req, s audit.Step) bool {
	for _, o := range s.Gone {
		at := slices.IndexFunc(alive, func(r slab.Req) bool { return r.Ticket == o.Ticket })
		var r slab.Req
		if at >= 0 {
			r = alive[at]
		}
		broken := false
		switch rule {
		case 2:
			broken = at < 0 || r.Tier != o.Tier || r.Cohort != o.Cohort
		case 4:
			broken = o.Why == tally.Out && r.Deadline <= s.Now || o.Why == tally.Late && r.Deadline > s.Now
		case 6:
			shed := o.Why == tally.Cut || o.Why == tally.Full || o.Why == tally.Codel
			broken = shed && slices.ContainsFunc(alive, func(q slab.Req) bool { return q.Tier > o.Tier })
		}
		if broken {
			return false
		}
		alive = leftBy(alive, o)
	}
	return true
}

func nextTicket(before []audit.Step) uint64 {
	for n := len(before) - 1; n >= 0; n-- {
		if before[n].Result.Answer == gate.Admitted {
			return before[n].Result.Ticket + 1
		}
	}
	return 1
}

func outHolds(s audit.Step) bool {
	var outs []int
	for n, o := range s.Gone {
		if o.Why == tally.Out {
			outs = append(outs, n)
		}
	}
	if s.Result.Answer != gate.Dispatched {
		return outs == nil
	}
	last := len(s.Gone) - 1
	return s.Op.Kind == core.Poll && slices.Equal(outs, []int{last}) && s.Gone[last].Ticket == s.Result.Ticket
}

func randomConfig(r *rand.Rand) conf.Config {
	c := conf.Default()
	c.Tiers, c.Room = 1+r.Intn(4), 1+r.Intn(12)
	c.Target, c.Interval = 1+r.Int63n(6), 1+r.Int63n(20)
	c.Low = r.Int63n(12)
	c.High, c.Dwell = c.Low+r.Int63n(12), r.Int63n(12)
	c.Horizon = c.Target + r.Int63n(60)
	c.Kp = fix.Whole(r.Int63n(100))
	c.Step = 1 + r.Int63n(300)
	return c
}

func randomOp(r *rand.Rand, c conf.Config, now int64) core.Op {
	switch n := r.Intn(20); n {
	case 0:
		return core.Op{Kind: core.Sample, N: r.Int63n(4) << 31}
	case 1:
		return core.Op{Kind: core.Sample}
	case 2:
		return core.Op{Kind: byte(r.Intn(6)), Tier: r.Intn(8) - 2, Cohort: r.Intn(140) - 5, N: now + r.Int63n(99)}
	case 3, 4, 5, 6, 7, 8:
		return core.Op{Kind: core.Poll}
	}
	return submit(r.Intn(c.Tiers), r.Intn(api.Cohorts), now+r.Int63n(50)-1)
}

// stepsOf runs a random script on a core.
func stepsOf(t *testing.T, r *rand.Rand, c conf.Config, calls int) ([]audit.Step, *core.Core) {
	t.Helper()
	k := newCore(t, c)
	var steps []audit.Step
	now, pace := int64(0), 1+r.Int63n(8)
	for range calls {
		now += r.Int63n(pace)
		steps = append(steps, audit.Run(k, now-r.Int63n(2)*r.Int63n(3), randomOp(r, c, now)))
	}
	return steps, k
}

// TestStepsOfACore: P4 and P5 are promised of each core, so none of its steps violates a rule; and those without an outcome are those that are queued.
func TestStepsOfACore(t *testing.T) {
	r := rand.New(rand.NewSource(17))
	reasons := map[byte]int{}
	for range 1000 {
		c := randomConfig(r)
		steps, k := stepsOf(t, r, c, 200)
		if got := audit.Check(c, steps); got != none {
			t.Fatalf("%+v: %s", got, audit.Name(got.Rule))
		}
		alive := aliveAfter(c, steps)
		slices.SortStableFunc(alive, func(a, b slab.Req) int { return a.Tier - b.Tier })
		if got := k.Queue(); !slices.Equal(got, alive) {
			t.Fatal("alive are", alive, "but queued are", got)
		}
		for _, s := range steps {
			for _, o := range s.Gone {
				reasons[o.Why]++
			}
		}
	}
	for why := byte(tally.Out); why <= tally.Drain; why++ {
		if reasons[why] < 50 {
			t.Error("the reason", why, "was met too seldom:", reasons[why])
		}
	}
}

// TestStepsAreWhatTheCoreDid: each step tells the clock, the result and the outcomes that a core of its own has.
func TestStepsAreWhatTheCoreDid(t *testing.T) {
	r := rand.New(rand.NewSource(18))
	for range 200 {
		c := randomConfig(r)
		k, twin := newCore(t, c), newCore(t, c)
		now := int64(0)
		for range 100 {
			now += r.Int63n(4)
			at := now - r.Int63n(3)
			op := randomOp(r, c, now)
			log := twin.Log().Len()
			want := audit.Step{Op: op, Result: twin.Do(at, op), Now: twin.Clock(), Gone: twin.Log().Since(log)}
			if got := audit.Run(k, at, op); !sameStep(got, want) {
				t.Fatalf("%+v, not %+v", got, want)
			}
		}
		if !slices.Equal(k.Queue(), twin.Queue()) || !slices.Equal(k.Log().Since(0), twin.Log().Since(0)) {
			t.Fatal("another effect than that of Do")
		}
	}
}

// spoil changes one thing of a history.
func spoil(r *rand.Rand, c *conf.Config, steps []audit.Step) []audit.Step {
	at := r.Intn(len(steps))
	s := &steps[at]
	near := int64(r.Intn(7) - 3)
	switch r.Intn(16) {
	case 0:
		s.Now += near
	case 1:
		s.Op.Kind = byte(r.Intn(5))
	case 2:
		s.Op.Tier += int(near)
	case 3:
		s.Op.N += near * 10
	case 4:
		s.Result.Answer = byte(r.Intn(12))
	case 5:
		s.Result.Ticket += uint64(near)
	case 6:
		s.Result.Tier += int(near)
	case 7:
		s.Result.Cohort += int(near)
	case 8:
		return slices.Delete(steps, at, at+1)
	case 9:
		other := r.Intn(len(steps))
		steps[at], steps[other] = steps[other], steps[at]
	case 10:
		c.Room, c.Horizon = c.Room-r.Intn(3), c.Horizon+near
	case 11:
		c.Tiers += int(near)
	case 12, 13:
		if alive := aliveAfter(*c, steps[:at]); len(alive) > 0 {
			q := alive[r.Intn(len(alive))]
			why := []byte{tally.Cut, tally.Full, tally.Codel}[r.Intn(3)]
			s.Gone = slices.Insert(s.Gone, 0, tally.Outcome{Ticket: q.Ticket, Tier: q.Tier, Cohort: q.Cohort, Why: why})
		}
	default:
		spoilGone(r, steps)
	}
	return steps
}

// spoilGone changes what is gone by one of those steps by which something is.
func spoilGone(r *rand.Rand, steps []audit.Step) {
	var those []*audit.Step
	for n := range steps {
		if len(steps[n].Gone) > 0 {
			those = append(those, &steps[n])
		}
	}
	if those == nil {
		return
	}
	s := those[r.Intn(len(those))]
	at, other := r.Intn(len(s.Gone)), r.Intn(len(s.Gone))
	o := &s.Gone[at]
	switch r.Intn(7) {
	case 0:
		s.Gone = slices.Delete(s.Gone, at, at+1)
	case 1:
		s.Gone = append(s.Gone, s.Gone[other])
	case 2:
		s.Gone[at], s.Gone[other] = s.Gone[other], s.Gone[at]
	case 3:
		o.Ticket += uint64(r.Intn(5) - 2)
	case 4:
		o.Tier += r.Intn(3) - 1
	case 5:
		o.Cohort += r.Intn(3) - 1
	case 6:
		o.Why = byte(r.Intn(8))
	}
}

// TestSpoiltHistories compares with the restatement, and calls Check twice (P2).
func TestSpoiltHistories(t *testing.T) {
	r := rand.New(rand.NewSource(19))
	met := map[byte]int{}
	for range 3000 {
		c := randomConfig(r)
		steps, _ := stepsOf(t, r, c, 40)
		for range 1 + r.Intn(3) {
			steps = spoil(r, &c, steps)
		}
		want := faultOf(c, steps)
		for range 2 {
			if got := audit.Check(c, steps); got != want {
				t.Fatalf("%+v: %+v: %+v, not %+v", c, steps, got, want)
			}
		}
		met[want.Rule]++
	}
	for rule := byte(0); rule <= 10; rule++ {
		if met[rule] < 20 {
			t.Error(audit.Name(rule), "was met too seldom:", met[rule])
		}
	}
}

// TestWildHistories: P1, for steps and configurations that nobody means.
func TestWildHistories(t *testing.T) {
	r := rand.New(rand.NewSource(20))
	numbers := []int64{math.MinInt64, math.MinInt64 + 1, -1, 0, 0, 0, 1, 1, 2, 3, 127, 128, 1 << 40, most - 1, most}
	some := func() int64 { return numbers[r.Intn(len(numbers))] }
	for range 20000 {
		c := conf.Config{Tiers: int(some()), Room: int(some()), Horizon: some()}
		var steps []audit.Step
		for range r.Intn(6) {
			s := audit.Step{Now: some(), Op: core.Op{Kind: byte(r.Intn(6)), Tier: int(some()), Cohort: int(some()), N: some()}}
			s.Result = core.Result{Answer: byte(r.Intn(12)), Ticket: uint64(some()), Tier: int(some()), Cohort: int(some()), Sojourn: some()}
			for range r.Intn(3) {
				s.Gone = append(s.Gone, tally.Outcome{Ticket: uint64(some()), Tier: int(some()), Cohort: int(some()), Why: byte(r.Intn(8))})
			}
			if r.Intn(2) == 0 {
				s.Result.Answer, s.Result.Tier, s.Result.Cohort = gate.Admitted, s.Op.Tier, s.Op.Cohort
				s.Op.Kind = core.Submit
			}
			steps = append(steps, s)
		}
		if got, want := audit.Check(c, steps), faultOf(c, steps); got != want {
			t.Fatalf("%+v: %+v: %+v, not %+v", c, steps, got, want)
		}
	}
}

// TestLongHistory: with as many requests alive as there can be.
func TestLongHistory(t *testing.T) {
	c := sized(api.MaxTiers, api.MaxRoom)
	c.Target, c.Interval = 1<<40, 1<<40
	c.Horizon = 1 << 50
	r := rand.New(rand.NewSource(21))
	k := newCore(t, c)
	var steps []audit.Step
	for now := range int64(4000) {
		steps = append(steps, audit.Run(k, now, submit(r.Intn(api.MaxTiers), r.Intn(api.Cohorts), 1<<45)))
	}
	for range 500 {
		steps = append(steps, audit.Run(k, 5000, core.Op{Kind: core.Poll}))
	}
	steps = append(steps, audit.Run(k, 6000, core.Op{Kind: core.Drain}))
	if got := audit.Check(c, steps); got != none {
		t.Error(got)
	}
	if n := len(steps[len(steps)-1].Gone); n != api.MaxRoom-500 {
		t.Error(n, "are drained")
	}
	c.Room--
	if got := audit.Check(c, steps); got != (audit.Fault{At: api.MaxRoom - 1, Rule: 8}) {
		t.Error(got)
	}
}
