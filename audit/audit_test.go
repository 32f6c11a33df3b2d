package audit_test

import (
	"math"
	"slices"
	"testing"

	"overfall/api"
	"overfall/audit"
	"overfall/conf"
	"overfall/core"
	"overfall/fix"
	"overfall/gate"
	"overfall/tally"
)

const (
	far  = 900 // a deadline within the horizon that few tests reach
	most = math.MaxInt64
)

var none = audit.Fault{At: -1}

// sized has a Horizon of 1000.
func sized(tiers, room int) conf.Config {
	c := conf.Default()
	c.Tiers, c.Room = tiers, room
	return c
}

func answer(a byte) core.Result { return core.Result{Answer: a} }

func submit(tier, cohort int, deadline int64) core.Op {
	return core.Op{Kind: core.Submit, Tier: tier, Cohort: cohort, N: deadline}
}

// admit is the step of a Submit with cohort 3 that is Admitted.
func admit(now int64, ticket uint64, tier int, deadline int64) audit.Step {
	return audit.Step{
		Now:    now,
		Op:     submit(tier, 3, deadline),
		Result: core.Result{Answer: gate.Admitted, Ticket: ticket, Tier: tier, Cohort: 3},
	}
}

// gone is the outcome of a request that admit has admitted.
func gone(ticket uint64, tier int, why byte) tally.Outcome {
	return tally.Outcome{Ticket: ticket, Tier: tier, Cohort: 3, Why: why}
}

// dispatch is the step of a Poll: the last one of those that are gone is Dispatched.
func dispatch(now int64, o ...tally.Outcome) audit.Step {
	last := o[len(o)-1]
	return audit.Step{
		Now:    now,
		Op:     core.Op{Kind: core.Poll},
		Result: core.Result{Answer: gate.Dispatched, Ticket: last.Ticket, Tier: last.Tier, Cohort: last.Cohort},
		Gone:   o,
	}
}

// done is the step of a Sample.
func done(now int64, o ...tally.Outcome) audit.Step {
	return audit.Step{Now: now, Op: core.Op{Kind: core.Sample}, Result: answer(gate.Done), Gone: o}
}

// history is one step after the other.
func history(steps ...audit.Step) []audit.Step { return steps }

// first makes a history of requests that are admitted at 0, with tickets from 1 on, and then of further steps.
func first(tiers []int, steps ...audit.Step) []audit.Step {
	var all []audit.Step
	for n, tier := range tiers {
		all = append(all, admit(0, uint64(n+1), tier, far))
	}
	return append(all, steps...)
}

// checked holds Check of a history with 4 tiers and room for 9 against what it should be, and against the plain restatement.
func checked(t *testing.T, steps []audit.Step, want audit.Fault) {
	t.Helper()
	checkedOf(t, sized(4, 9), steps, want)
}

func checkedOf(t *testing.T, c conf.Config, steps []audit.Step, want audit.Fault) {
	t.Helper()
	if got := audit.Check(c, steps); got != want {
		t.Errorf("%+v: %+v, not %+v", steps, got, want)
	}
	if got := faultOf(c, steps); got != want {
		t.Errorf("%+v: restated %+v, not %+v", steps, got, want)
	}
}

// with changes a step before it is used.
func with(s audit.Step, change func(s *audit.Step)) audit.Step {
	s.Gone = slices.Clone(s.Gone)
	change(&s)
	return s
}

// P17.1

func newCore(t *testing.T, c conf.Config) *core.Core {
	t.Helper()
	k, e := core.New(c)
	if e != api.OK {
		t.Fatal(e)
	}
	return k
}

func sameStep(a, b audit.Step) bool {
	return a.Now == b.Now && a.Op == b.Op && a.Result == b.Result && slices.Equal(a.Gone, b.Gone)
}

func TestRun(t *testing.T) {
	k := newCore(t, sized(2, 2))
	poll := core.Op{Kind: core.Poll}
	sample := core.Op{Kind: core.Sample, N: int64(fix.Whole(100))}
	for _, s := range []struct {
		now  int64
		want audit.Step
	}{
		{5, audit.Step{Now: 5, Op: submit(1, 7, 20), Result: core.Result{Answer: gate.Admitted, Ticket: 1, Tier: 1, Cohort: 7}}},
		{3, audit.Step{Now: 5, Op: submit(0, 9, 50), Result: core.Result{Answer: gate.Admitted, Ticket: 2, Cohort: 9}}},
		{6, audit.Step{Now: 6, Op: submit(0, 1, 60), Result: core.Result{Answer: gate.Admitted, Ticket: 3, Cohort: 1}, Gone: []tally.Outcome{
			{Ticket: 1, Tier: 1, Cohort: 7, Why: tally.Full, At: 6, Sojourn: 1}}}},
		{7, audit.Step{Now: 7, Op: submit(2, 0, 60), Result: answer(gate.Invalid)}},
		{8, audit.Step{Now: 8, Op: submit(0, 0, 8), Result: answer(gate.Expired)}},
		{-1, audit.Step{Now: 8, Op: core.Op{Kind: 77, N: 5}, Result: answer(gate.Invalid)}},
		{50, audit.Step{Now: 50, Op: poll, Result: core.Result{Answer: gate.Dispatched, Ticket: 3, Cohort: 1, Sojourn: 44}, Gone: []tally.Outcome{
			{Ticket: 2, Cohort: 9, Why: tally.Late, At: 50, Sojourn: 45},
			{Ticket: 3, Cohort: 1, Why: tally.Out, At: 50, Sojourn: 44}}}},
		{51, audit.Step{Now: 51, Op: poll, Result: answer(gate.Empty)}},
		{52, audit.Step{Now: 52, Op: submit(1, 127, 99), Result: core.Result{Answer: gate.Admitted, Ticket: 4, Tier: 1, Cohort: 127}}},
		{53, audit.Step{Now: 53, Op: sample, Result: answer(gate.Done), Gone: []tally.Outcome{
			{Ticket: 4, Tier: 1, Cohort: 127, Why: tally.Cut, At: 53, Sojourn: 1}}}},
		{54, audit.Step{Now: 54, Op: submit(1, 127, 99), Result: answer(gate.Cutoff)}},
		{55, audit.Step{Now: 55, Op: submit(0, 2, 99), Result: core.Result{Answer: gate.Admitted, Ticket: 5, Cohort: 2}}},
		{56, audit.Step{Now: 56, Op: core.Op{Kind: core.Drain, N: 56}, Result: answer(gate.Done), Gone: []tally.Outcome{
			{Ticket: 5, Cohort: 2, Why: tally.Drain, At: 56, Sojourn: 1}}}},
		{57, audit.Step{Now: 57, Op: submit(9, 9, 9), Result: answer(gate.Draining)}},
		{58, audit.Step{Now: 58, Op: poll, Result: answer(gate.Closed)}},
	} {
		if got := audit.Run(k, s.now, s.want.Op); !sameStep(got, s.want) {
			t.Errorf("at %d: %+v, not %+v", s.now, got, s.want)
		}
	}
}

func TestRunTellsItsOwnCallAlone(t *testing.T) {
	k := newCore(t, sized(2, 9))
	k.Do(0, submit(0, 0, 50))
	k.Do(0, submit(0, 0, 50))
	k.Do(1, core.Op{Kind: core.Poll})
	s := audit.Run(k, 2, core.Op{Kind: core.Poll})
	if len(s.Gone) != 1 || s.Gone[0].Ticket != 2 || k.Log().Len() != 2 {
		t.Errorf("%+v", s)
	}
	if s := audit.Run(k, 3, core.Op{Kind: core.Poll}); len(s.Gone) != 0 || s.Now != 3 {
		t.Errorf("%+v", s)
	}
}

func TestRunIsNewMemory(t *testing.T) {
	k := newCore(t, sized(2, 9))
	for range 3 {
		k.Do(0, submit(0, 0, 50))
	}
	a := audit.Run(k, 0, core.Op{Kind: core.Poll})
	b := audit.Run(k, 0, core.Op{Kind: core.Poll})
	want := k.Log().Since(0)
	for _, s := range []audit.Step{a, b} {
		for n := range s.Gone[:cap(s.Gone)] {
			s.Gone[:cap(s.Gone)][n].Ticket = 99
		}
	}
	c := audit.Run(k, 0, core.Op{Kind: core.Poll})
	if got := k.Log().Since(0); !slices.Equal(got[:2], want) || len(c.Gone) != 1 || c.Gone[0].Ticket != 3 {
		t.Error(got, c)
	}
}

func TestRunOfNil(t *testing.T) {
	for _, now := range []int64{math.MinInt64, -1, 0, 9, most} {
		for kind := range 256 {
			want := audit.Step{Now: now, Op: core.Op{Kind: byte(kind), Tier: 1, Cohort: 2, N: 3}}
			if got := audit.Run(nil, now, want.Op); !sameStep(got, want) {
				t.Errorf("%+v, not %+v", got, want)
			}
		}
	}
}

// TestNothingIsAliveAtFirst: nor anything known from another history.
func TestNothingIsAliveAtFirst(t *testing.T) {
	for range 2 {
		checked(t, first([]int{1}, dispatch(1, gone(1, 1, tally.Out))), none)
		checked(t, history(dispatch(1, gone(1, 1, tally.Out))), audit.Fault{At: 0, Rule: 2})
		checked(t, first([]int{1}), none)
	}
}

// P17.2

func TestNoSteps(t *testing.T) {
	for _, c := range []conf.Config{{}, conf.Default(), sized(-1, -1)} {
		checkedOf(t, c, nil, none)
		checkedOf(t, c, []audit.Step{}, none)
	}
}

func TestName(t *testing.T) {
	names := []string{"", "clock", "alive", "fresh", "ends", "out", "tiers", "first", "room", "invalid", "swept"}
	for rule := range 256 {
		want := ""
		if rule < len(names) {
			want = names[rule]
		}
		if got := audit.Name(byte(rule)); got != want {
			t.Errorf("%d: %q, not %q", rule, got, want)
		}
	}
}

func TestClock(t *testing.T) {
	bad := func(at int) audit.Fault { return audit.Fault{At: at, Rule: 1} }
	checked(t, history(done(-1)), bad(0))
	checked(t, history(done(math.MinInt64)), bad(0))
	checked(t, history(done(0)), none)
	checked(t, history(done(most)), none)
	checked(t, history(done(0), done(0), done(1), done(1), done(most), done(most)), none)
	checked(t, history(done(5), done(4)), bad(1))
	checked(t, history(done(5), done(5), done(9), done(6)), bad(3))
	checked(t, history(done(5), done(-1), done(9)), bad(1))
	checked(t, history(done(most), done(math.MinInt64)), bad(1))
}

func TestAlive(t *testing.T) {
	bad := func(at int) audit.Fault { return audit.Fault{At: at, Rule: 2} }
	for why := range 256 {
		o := gone(1, 2, byte(why))
		step := done(5, o)
		switch why {
		case tally.Out:
			step = dispatch(5, o)
		case tally.Late:
			step.Now = far
		}
		checked(t, first([]int{2}, step), none)
		checked(t, history(step), bad(0))
		again := with(step, func(s *audit.Step) { s.Now = far })
		checked(t, first([]int{2}, step, again), bad(2))
		for _, change := range []func(o *tally.Outcome){
			func(o *tally.Outcome) { o.Ticket = 0 },
			func(o *tally.Outcome) { o.Ticket = 2 },
			func(o *tally.Outcome) { o.Ticket = math.MaxUint64 },
			func(o *tally.Outcome) { o.Ticket += 1 << 32 },
			func(o *tally.Outcome) { o.Tier = 1 },
			func(o *tally.Outcome) { o.Tier = 3 },
			func(o *tally.Outcome) { o.Tier = -2 },
			func(o *tally.Outcome) { o.Tier += 1 << 32 },
			func(o *tally.Outcome) { o.Cohort = 2 },
			func(o *tally.Outcome) { o.Cohort = 131 },
			func(o *tally.Outcome) { o.Cohort = -3 },
		} {
			changed := with(step, func(s *audit.Step) { change(&s.Gone[0]) })
			checked(t, first([]int{2}, changed), bad(1))
		}
	}
}

func TestGoneTwiceInOneStep(t *testing.T) {
	twice := done(5, gone(2, 1, tally.Cut), gone(2, 1, tally.Cut))
	checked(t, first([]int{1, 1}, twice), audit.Fault{At: 2, Rule: 2})
	checked(t, first([]int{1, 1}, dispatch(5, gone(2, 1, tally.Codel), gone(2, 1, tally.Out))), audit.Fault{At: 2, Rule: 2})
	checked(t, first([]int{1, 1}, dispatch(5, gone(2, 1, tally.Codel), gone(1, 1, tally.Out))), none)
}

// TestNotAliveBeforeItIsAdmitted: what is gone is checked before the result.
func TestNotAliveBeforeItIsAdmitted(t *testing.T) {
	s := admit(0, 1, 2, far)
	s.Gone = []tally.Outcome{gone(1, 2, tally.Full)}
	checked(t, history(s), audit.Fault{At: 0, Rule: 2})
	s = admit(0, 2, 1, far)
	s.Gone = []tally.Outcome{gone(1, 2, tally.Full)}
	checked(t, first([]int{2}, s, dispatch(1, gone(2, 1, tally.Out))), none)
}

// TestOtherFieldsOfOutcomes: no rule speaks of their times.
func TestOtherFieldsOfOutcomes(t *testing.T) {
	o := gone(1, 2, tally.Out)
	o.At, o.Sojourn = -8, math.MinInt64
	s := dispatch(5, o)
	s.Result.Sojourn, s.Result.Cohort = -77, 99
	checked(t, first([]int{2}, s), none)
}

func TestFresh(t *testing.T) {
	bad := func(at int) audit.Fault { return audit.Fault{At: at, Rule: 3} }
	for _, ticket := range []uint64{0, 2, 3, math.MaxUint64, 1 + 1<<32} {
		checked(t, history(admit(0, ticket, 0, far)), bad(0))
	}
	for _, ticket := range []uint64{0, 1, 2, 4, 5, 3 + 1<<32, math.MaxUint64} {
		checked(t, first([]int{0, 3}, admit(0, ticket, 0, far)), bad(2))
	}
	checked(t, first([]int{0, 3}, done(1), admit(1, 3, 0, far)), none)
	// those that are gone do not give their tickets back
	checked(t, first([]int{0}, dispatch(1, gone(1, 0, tally.Out)), admit(1, 1, 0, far)), bad(2))
	checked(t, first([]int{0}, dispatch(1, gone(1, 0, tally.Out)), admit(1, 2, 0, far)), none)
	// the tickets of other results do not count
	other := done(0)
	other.Result.Ticket = 7
	checked(t, history(other, admit(0, 8, 0, far)), bad(1))
	checked(t, history(other, admit(0, 1, 0, far)), none)
}

func TestAdmittedIsThatOfARightSubmit(t *testing.T) {
	for n, change := range []func(s *audit.Step){
		func(s *audit.Step) { s.Op.Kind = core.Poll },
		func(s *audit.Step) { s.Op.Kind = core.Sample },
		func(s *audit.Step) { s.Op.Kind = core.Drain },
		func(s *audit.Step) { s.Op.Kind = 4 },
		func(s *audit.Step) { s.Op.Kind = 255 },
		func(s *audit.Step) { s.Op.Tier, s.Result.Tier = 4, 4 },
		func(s *audit.Step) { s.Op.Tier, s.Result.Tier = -1, -1 },
		func(s *audit.Step) { s.Op.Tier, s.Result.Tier = 1<<32, 1<<32 },
		func(s *audit.Step) { s.Op.Cohort, s.Result.Cohort = 128, 128 },
		func(s *audit.Step) { s.Op.Cohort, s.Result.Cohort = -1, -1 },
		func(s *audit.Step) { s.Op.Tier = 1 },
		func(s *audit.Step) { s.Result.Tier = 3 },
		func(s *audit.Step) { s.Result.Tier = -2 },
		func(s *audit.Step) { s.Op.Cohort = 4 },
		func(s *audit.Step) { s.Result.Cohort = 0 },
		func(s *audit.Step) { s.Op.Tier = 4 }, // the result's tier would be right
		func(s *audit.Step) { s.Op.Cohort = 128 },
	} {
		s := with(admit(0, 1, 2, far), change)
		if got := audit.Check(sized(4, 9), history(s)); got != (audit.Fault{At: 0, Rule: 3}) {
			t.Errorf("%d: %+v", n, got)
		}
	}
	s := with(admit(0, 1, 2, far), func(s *audit.Step) { s.Result.Sojourn = 9 })
	checked(t, history(s), none)
	for _, edge := range [][2]int{{0, 0}, {0, 127}, {3, 0}, {3, 127}} {
		s := with(admit(0, 1, edge[0], far), func(s *audit.Step) { s.Op.Cohort, s.Result.Cohort = edge[1], edge[1] })
		checked(t, history(s), none)
	}
}

func TestEnds(t *testing.T) {
	bad := audit.Fault{At: 1, Rule: 4}
	one := func(deadline int64, s audit.Step) []audit.Step { return history(admit(0, 1, 2, deadline), s) }
	for _, deadline := range []int64{1, 2, 500, 999, 1000} {
		checked(t, one(deadline, dispatch(deadline-1, gone(1, 2, tally.Out))), none)
		checked(t, one(deadline, dispatch(deadline, gone(1, 2, tally.Out))), bad)
		checked(t, one(deadline, dispatch(deadline+1, gone(1, 2, tally.Out))), bad)
		checked(t, one(deadline, done(deadline-1, gone(1, 2, tally.Late))), bad)
		checked(t, one(deadline, done(deadline, gone(1, 2, tally.Late))), none)
		checked(t, one(deadline, done(deadline+1, gone(1, 2, tally.Late))), none)
	}
	// the others end at any time
	for _, why := range []byte{0, tally.Cut, tally.Full, tally.Codel, tally.Drain, 7, 255} {
		for _, now := range []int64{0, 49, 50, 51, most} {
			checked(t, one(50, done(now, gone(1, 2, why))), none)
		}
	}
}

// TestDeadlinesWithinTheHorizon: they are layer 14's, for the step's time.
func TestDeadlinesWithinTheHorizon(t *testing.T) {
	for _, n := range []int64{1007, 1008, 5000, most} {
		from := admit(7, 1, 2, n)
		checked(t, history(from, dispatch(1006, gone(1, 2, tally.Out))), none)
		checked(t, history(from, dispatch(1007, gone(1, 2, tally.Out))), audit.Fault{At: 1, Rule: 4})
		checked(t, history(from, done(1006, gone(1, 2, tally.Late))), audit.Fault{At: 1, Rule: 4})
		checked(t, history(from, done(1007, gone(1, 2, tally.Late))), none)
		checked(t, history(from, done(1006), done(1007)), audit.Fault{At: 2, Rule: 10})
	}
	late := admit(most-1, 1, 2, most) // the horizon is beyond all times
	checked(t, history(late, dispatch(most-1, gone(1, 2, tally.Out))), none)
	checked(t, history(late, dispatch(most, gone(1, 2, tally.Out))), audit.Fault{At: 1, Rule: 4})
	checked(t, history(late, done(most, gone(1, 2, tally.Late))), none)
}

func TestOut(t *testing.T) {
	bad := audit.Fault{At: 3, Rule: 5}
	three := []int{1, 1, 1}
	checked(t, first(three, dispatch(1, gone(2, 1, tally.Out))), none)
	checked(t, first(three, dispatch(1, gone(2, 1, tally.Codel), gone(1, 1, tally.Codel), gone(3, 1, tally.Out))), none)
	for _, kind := range []byte{core.Submit, core.Sample, core.Drain, 4, 255} {
		s := with(dispatch(1, gone(2, 1, tally.Out)), func(s *audit.Step) { s.Op = core.Op{Kind: kind, N: far} })
		checked(t, first(three, s), bad)
	}
	for n, change := range []func(s *audit.Step){
		func(s *audit.Step) { s.Gone = nil },
		func(s *audit.Step) { s.Gone = s.Gone[:1] },
		func(s *audit.Step) { s.Gone[1].Why = tally.Codel },
		func(s *audit.Step) { s.Gone[1].Why = tally.Drain },
		func(s *audit.Step) { s.Gone[1].Why = 0 },
		func(s *audit.Step) { s.Gone[0], s.Gone[1] = s.Gone[1], s.Gone[0] },
		func(s *audit.Step) { s.Gone[0].Why = tally.Out },
		func(s *audit.Step) { s.Result.Ticket = 1 },
		func(s *audit.Step) { s.Result.Ticket = 3 },
		func(s *audit.Step) { s.Result.Ticket = 0 },
		func(s *audit.Step) { s.Result.Ticket = 2 + 1<<32 },
	} {
		s := with(dispatch(1, gone(1, 1, tally.Codel), gone(2, 1, tally.Out)), change)
		if got := audit.Check(sized(4, 9), first(three, s)); got != bad {
			t.Errorf("%d: %+v", n, got)
		}
	}
}

func TestNoOtherResultHasOut(t *testing.T) {
	for a := range 256 {
		want := audit.Fault{At: 2, Rule: 5}
		switch a {
		case gate.Dispatched:
			want = none
		case gate.Admitted:
			want.Rule = 3 // that of a Poll
		}
		s := with(dispatch(1, gone(1, 1, tally.Out)), func(s *audit.Step) { s.Result.Answer = byte(a) })
		checked(t, first([]int{1, 1}, s), want)
	}
	s := admit(1, 3, 1, far)
	s.Gone = []tally.Outcome{gone(2, 1, tally.Out)}
	checked(t, first([]int{1, 1}, s), audit.Fault{At: 2, Rule: 5})
	s.Gone = []tally.Outcome{gone(2, 1, tally.Out), gone(1, 1, tally.Full)}
	checked(t, first([]int{1, 1}, s), audit.Fault{At: 2, Rule: 5})
	checked(t, first([]int{1, 1}, done(1, gone(1, 1, tally.Cut), gone(2, 1, tally.Out))), audit.Fault{At: 2, Rule: 5})
}

func TestTiers(t *testing.T) {
	for _, why := range []byte{tally.Cut, tally.Full, tally.Codel} {
		for _, c := range []struct {
			tiers []int
			gone  []uint64
			want  bool
		}{
			{[]int{0, 1}, []uint64{1}, false},
			{[]int{0, 1}, []uint64{2}, true},
			{[]int{1, 0}, []uint64{1}, true},
			{[]int{1, 1}, []uint64{1}, true},
			{[]int{2, 2, 2}, []uint64{2}, true},
			{[]int{0, 3}, []uint64{1}, false},
			{[]int{2, 3}, []uint64{1}, false},
			{[]int{3, 2}, []uint64{1}, true},
			{[]int{0, 1}, []uint64{2, 1}, true},
			{[]int{0, 1}, []uint64{1, 2}, false},
			{[]int{0, 1, 2}, []uint64{3, 2, 1}, true},
			{[]int{0, 1, 2}, []uint64{3, 1, 2}, false},
			{[]int{0, 1, 2}, []uint64{3, 1}, false},
			{[]int{0, 1, 1}, []uint64{3, 1}, false},
			{[]int{0, 1, 1}, []uint64{3, 2, 1}, true},
			{[]int{3}, []uint64{1}, true},
		} {
			var o []tally.Outcome
			for _, ticket := range c.gone {
				o = append(o, gone(ticket, c.tiers[ticket-1], why))
			}
			want := none
			if !c.want {
				want = audit.Fault{At: len(c.tiers), Rule: 6}
			}
			checked(t, first(c.tiers, done(1, o...)), want)
		}
	}
}

func TestTiersOnlyForThreeReasons(t *testing.T) {
	for _, why := range []byte{0, tally.Drain, 7, 255} {
		checked(t, first([]int{0, 1}, done(1, gone(1, 0, why))), none)
	}
	checked(t, history(admit(0, 1, 0, 5), admit(0, 2, 1, far), done(5, gone(1, 0, tally.Late))), none)
	checked(t, first([]int{0, 1}, dispatch(1, gone(1, 0, tally.Out))), none)
}

// TestTiersBeforeTheResult: who is admitted in the same step is not alive yet.
func TestTiersBeforeTheResult(t *testing.T) {
	s := admit(1, 2, 3, far)
	s.Gone = []tally.Outcome{gone(1, 1, tally.Full)}
	checked(t, first([]int{1}, s), none)
	checked(t, first([]int{1}, s, done(2, gone(2, 3, tally.Cut))), none)
	checked(t, first([]int{1, 2}, with(s, func(s *audit.Step) { s.Result.Ticket = 3 })), audit.Fault{At: 2, Rule: 6})
}

func TestFirst(t *testing.T) {
	bad := func(at int) audit.Fault { return audit.Fault{At: at, Rule: 7} }
	checked(t, first([]int{0, 1}, dispatch(1, gone(2, 1, tally.Out))), bad(2))
	checked(t, first([]int{0, 3}, dispatch(1, gone(2, 3, tally.Out))), bad(2))
	checked(t, first([]int{3, 2}, dispatch(1, gone(1, 3, tally.Out))), bad(2))
	checked(t, first([]int{1, 1}, dispatch(1, gone(2, 1, tally.Out))), none)
	checked(t, first([]int{0, 1}, dispatch(1, gone(1, 0, tally.Out))), none)
	checked(t, first([]int{0, 1}, dispatch(1, gone(1, 0, tally.Out)), dispatch(1, gone(2, 1, tally.Out))), none)
	// what counts is the state after the step
	checked(t, history(admit(0, 1, 0, 5), admit(0, 2, 1, far), dispatch(5, gone(1, 0, tally.Late), gone(2, 1, tally.Out))), none)
	// other results
	checked(t, first([]int{0, 1}, done(1, gone(2, 1, tally.Cut))), none)
}

// TestFirstByTheResult: its tier counts, not that of the one that is Out.
func TestFirstByTheResult(t *testing.T) {
	s := dispatch(1, gone(2, 1, tally.Out))
	s.Result.Tier = 0
	checked(t, first([]int{0, 1}, s), none)
	s.Result.Tier = -5
	checked(t, first([]int{0, 1}, s), none)
	s = dispatch(1, gone(1, 0, tally.Out))
	s.Result.Tier = 1
	checked(t, first([]int{0, 1}, s), none)
	s.Result.Tier = 2
	checked(t, first([]int{0, 1}, s), audit.Fault{At: 2, Rule: 7})
	s.Result.Tier = math.MaxInt
	checked(t, first([]int{0, 1}, s), audit.Fault{At: 2, Rule: 7})
	checked(t, first([]int{0}, s), none)
}

func TestRoom(t *testing.T) {
	two := sized(4, 2)
	checkedOf(t, two, first([]int{0, 1}), none)
	checkedOf(t, two, first([]int{0, 1, 2}), audit.Fault{At: 2, Rule: 8})
	s := admit(1, 3, 0, far)
	s.Gone = []tally.Outcome{gone(2, 1, tally.Full)}
	checkedOf(t, two, first([]int{0, 1}, s), none)
	checkedOf(t, two, first([]int{0, 1}, s, admit(2, 4, 0, far)), audit.Fault{At: 3, Rule: 8})
	checkedOf(t, two, first([]int{0, 1}, dispatch(1, gone(1, 0, tally.Out)), admit(1, 3, 2, far)), none)
	full := make([]int, api.MaxRoom)
	if got := audit.Check(sized(4, api.MaxRoom), first(full)); got != none {
		t.Error(got)
	}
	if got := audit.Check(sized(4, api.MaxRoom-1), first(full)); got != (audit.Fault{At: api.MaxRoom - 1, Rule: 8}) {
		t.Error(got)
	}
	checkedOf(t, sized(4, 0), history(done(0), admit(0, 1, 0, far)), audit.Fault{At: 1, Rule: 8})
	checkedOf(t, sized(4, -1), history(done(0)), audit.Fault{At: 0, Rule: 8})
}

func TestInvalid(t *testing.T) {
	for _, wrong := range [][2]int{{4, 0}, {-1, 0}, {0, 128}, {3, -1}, {math.MaxInt, 0}, {math.MinInt, math.MinInt}, {1 << 32, 1}, {1, 1 << 32}} {
		for a := range 256 {
			s := audit.Step{Now: 1, Op: submit(wrong[0], wrong[1], far), Result: answer(byte(a))}
			want := audit.Fault{At: 1, Rule: 9}
			switch a {
			case gate.Invalid, gate.Draining:
				want = none
			case gate.Admitted:
				want.Rule = 3
			case gate.Dispatched:
				want.Rule = 5
			}
			checked(t, history(done(0), s), want)
			if a != gate.Admitted && a != gate.Dispatched {
				checked(t, history(done(0), with(s, func(s *audit.Step) { s.Op.Kind = core.Poll })), none)
				checked(t, history(done(0), with(s, func(s *audit.Step) { s.Op.Kind = 4 })), none)
				checked(t, history(done(0), with(s, func(s *audit.Step) { s.Op.Tier, s.Op.Cohort = 3, 127 })), none)
			}
		}
	}
}

// TestRightByTheConfiguration: by the number of its tiers.
func TestRightByTheConfiguration(t *testing.T) {
	full := audit.Step{Op: submit(1, 0, far), Result: answer(gate.Full)}
	checkedOf(t, sized(2, 9), history(full), none)
	checkedOf(t, sized(1, 9), history(full), audit.Fault{At: 0, Rule: 9})
	checkedOf(t, sized(2, 9), history(admit(0, 1, 1, far)), none)
	checkedOf(t, sized(1, 9), history(admit(0, 1, 1, far)), audit.Fault{At: 0, Rule: 3})
	checkedOf(t, conf.Config{}, history(full), audit.Fault{At: 0, Rule: 9})
}

func TestSwept(t *testing.T) {
	for a := range 256 {
		s := audit.Step{Now: 50, Op: core.Op{Kind: core.Sample}, Result: answer(byte(a))}
		want := audit.Fault{At: 1, Rule: 10}
		switch a {
		case gate.Invalid, gate.Expired:
			want = none
		case gate.Admitted:
			want.Rule = 3
		case gate.Dispatched:
			want.Rule = 5
		}
		checked(t, history(admit(0, 1, 0, 50), s), want)
		if want.Rule == 10 || want.Rule == 0 {
			s.Now = 51
			checked(t, history(admit(0, 1, 0, 50), s), want)
			s.Now = 49
			checked(t, history(admit(0, 1, 0, 50), s), none)
		}
	}
	checked(t, history(admit(0, 1, 0, 50), done(50, gone(1, 0, tally.Late))), none)
	checked(t, history(admit(0, 1, 0, 50), admit(0, 2, 0, 50), done(50, gone(1, 0, tally.Late))), audit.Fault{At: 2, Rule: 10})
	checked(t, history(admit(0, 1, 0, far), admit(0, 2, 0, 50), admit(0, 3, 0, far), done(50)), audit.Fault{At: 3, Rule: 10})
}

// TestSweptAfterARefusal: it is only put off.
func TestSweptAfterARefusal(t *testing.T) {
	refused := audit.Step{Now: 60, Op: submit(0, 0, 60), Result: answer(gate.Expired)}
	checked(t, history(admit(0, 1, 0, 50), refused, done(60, gone(1, 0, tally.Late))), none)
	checked(t, history(admit(0, 1, 0, 50), refused, done(60)), audit.Fault{At: 2, Rule: 10})
}

func TestAdmittedThoughDue(t *testing.T) {
	for _, deadline := range []int64{9, 8, 0, -1, math.MinInt64} {
		checked(t, history(admit(9, 1, 0, deadline)), audit.Fault{At: 0, Rule: 10})
	}
	checked(t, history(admit(9, 1, 0, 10)), none)
	checked(t, history(admit(most, 1, 0, most)), audit.Fault{At: 0, Rule: 10})
}

// TestSmallestRule: of the first step that violates one, wherever in the step it is violated.
func TestSmallestRule(t *testing.T) {
	two := []int{0, 1}
	fault := func(rule byte) audit.Fault { return audit.Fault{At: 2, Rule: rule} }
	checked(t, first(two, done(-1, gone(9, 0, tally.Cut))), fault(1))
	checked(t, first(two, done(1, gone(1, 0, tally.Late), gone(9, 0, tally.Drain))), fault(2))
	checked(t, first(two, done(1, gone(1, 0, tally.Cut), gone(9, 0, tally.Drain))), fault(2))
	checked(t, first(two, done(1, gone(1, 0, tally.Out), gone(2, 0, tally.Drain))), fault(2))
	s := admit(1, 5, 1, 0)
	s.Gone = []tally.Outcome{gone(1, 0, tally.Cut), gone(2, 1, tally.Late)}
	checked(t, first(two, s), fault(3))
	s = done(1, gone(1, 0, tally.Cut), gone(2, 1, tally.Late))
	checked(t, first(two, s), fault(4))
	checked(t, first(two, done(1, gone(1, 0, tally.Cut), gone(2, 1, tally.Out))), fault(5))
	checked(t, first(two, dispatch(1, gone(1, 0, tally.Codel), gone(2, 1, tally.Out))), fault(6))
	checked(t, first([]int{0, 1, 2}, dispatch(1, gone(2, 1, tally.Codel), gone(3, 2, tally.Out))), audit.Fault{At: 3, Rule: 6})
	checked(t, history(admit(0, 1, 0, 50), admit(0, 2, 1, far), dispatch(50, gone(2, 1, tally.Out))), fault(7))
	checkedOf(t, sized(4, 2), first(two, admit(1, 3, 0, 0)), fault(8))
	wrong := audit.Step{Now: far, Op: submit(9, 9, 0), Result: answer(gate.Done)}
	checked(t, first(two, wrong), fault(9))
}

func TestFirstStep(t *testing.T) {
	checked(t, history(done(0), done(3), admit(3, 2, 0, far), done(1)), audit.Fault{At: 2, Rule: 3})
	checked(t, history(done(0), done(3), done(1), admit(3, 2, 0, far)), audit.Fault{At: 2, Rule: 1})
	checked(t, first([]int{0}, done(far), done(-1), done(-2)), audit.Fault{At: 1, Rule: 10})
}

// TestArgumentsStay: nor is their spare capacity written to.
func TestArgumentsStay(t *testing.T) {
	steps := first([]int{1, 1, 0}, dispatch(1, gone(3, 0, tally.Out)), dispatch(2, gone(1, 1, tally.Codel), gone(2, 1, tally.Out)), done(3))
	steps = slices.Grow(steps, 5)
	all := steps[:cap(steps)]
	for n := range all {
		all[n].Gone = slices.Grow(all[n].Gone, 3)
	}
	whole := func() []audit.Step {
		copied := slices.Clone(all)
		for n, s := range copied {
			copied[n].Gone = slices.Clone(s.Gone[:cap(s.Gone)])
		}
		return copied
	}
	before := whole()
	checked(t, steps, none)
	if after := whole(); !slices.EqualFunc(before, after, sameStep) {
		t.Error("changed to", after)
	}
}

// TestNothingIsKept: a history may be overwritten after it was checked.
func TestNothingIsKept(t *testing.T) {
	steps := first([]int{1, 1}, dispatch(1, gone(1, 1, tally.Out)))
	checked(t, steps, none)
	steps[2].Gone[0].Ticket = 5
	checked(t, steps, audit.Fault{At: 2, Rule: 2})
	steps[0].Now = -1
	checked(t, steps, audit.Fault{At: 0, Rule: 1})
}
