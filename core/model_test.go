package core_test

import (
	"math"
	"math/rand"
	"slices"
	"testing"

	"overfall/api"
	"overfall/codel"
	"overfall/conf"
	"overfall/core"
	"overfall/fix"
	"overfall/gate"
	"overfall/mode"
	"overfall/slab"
	"overfall/tally"
)

// model restates the chapter on a plain list of the queued requests, in the order of their tickets.
type model struct {
	view
	limit int64
}

func newModel(c conf.Config) *model {
	return &model{view: view{config: c, codels: make([]codel.State, api.MaxTiers+2), modes: make([]mode.State, api.MaxTiers+2)}}
}

// told is what a core should tell: the queue tier by tier, and the states of the tiers from -1 on.
func (m *model) told() view {
	v := m.view
	v.level = m.pid.Level
	v.queue = nil
	for tier := range m.config.Tiers {
		v.queue = append(v.queue, m.ofTier(tier)...)
	}
	return v
}

func (m *model) ofTier(tier int) []slab.Req {
	var row []slab.Req
	for _, r := range m.queue {
		if r.Tier == tier {
			row = append(row, r)
		}
	}
	return row
}

func (m *model) end(r slab.Req, why byte) {
	m.queue = slices.DeleteFunc(m.queue, func(q slab.Req) bool { return q.Ticket == r.Ticket })
	m.log = append(m.log, tally.Outcome{Ticket: r.Ticket, Tier: r.Tier, Cohort: r.Cohort, Why: why, At: m.clock, Sojourn: m.clock - r.Arrived})
}

func (m *model) do(now int64, op core.Op) core.Result {
	if now > m.clock {
		m.clock = now
	}
	if op.Kind > 3 {
		return answer(gate.Invalid)
	}
	if op.Kind == core.Submit && m.phase == core.Running {
		if op.Tier < 0 || op.Tier >= m.config.Tiers || op.Cohort < 0 || op.Cohort > 127 {
			return answer(gate.Invalid)
		}
		if op.N <= m.clock {
			return answer(gate.Expired)
		}
	}
	m.sweep()
	r := m.operation(op)
	if m.phase == core.Draining && len(m.queue) == 0 {
		m.phase = core.Drained
	}
	return r
}

func (m *model) sweep() {
	late := slices.DeleteFunc(slices.Clone(m.queue), func(r slab.Req) bool { return r.Deadline > m.clock })
	slices.SortStableFunc(late, func(a, b slab.Req) int {
		if a.Deadline < b.Deadline {
			return -1
		}
		if a.Deadline > b.Deadline {
			return 1
		}
		return 0
	})
	for _, r := range late {
		m.end(r, tally.Late)
	}
	m.drainAll()
}

func (m *model) drainAll() {
	if m.phase != core.Draining {
		return
	}
	if m.clock >= m.limit || len(m.queue) == 0 {
		for _, r := range m.told().queue {
			m.end(r, tally.Drain)
		}
		m.phase = core.Drained
	}
}

func (m *model) operation(op core.Op) core.Result {
	switch op.Kind {
	case core.Submit:
		return m.submit(op)
	case core.Poll:
		return m.poll()
	case core.Sample:
		m.sample(op)
	case core.Drain:
		if m.phase == core.Running {
			m.phase = core.Draining
			m.limit = op.N
		} else if m.phase == core.Draining && op.N < m.limit {
			m.limit = op.N
		}
		m.drainAll()
	}
	return answer(gate.Done)
}

func (m *model) edge() int64 { return int64(m.config.Tiers)*128 - m.pid.Level }

func (m *model) submit(op core.Op) core.Result {
	if m.phase != core.Running {
		return answer(gate.Draining)
	}
	if int64(op.Tier*128+op.Cohort) >= m.edge() {
		return answer(gate.Cutoff)
	}
	if len(m.queue) == m.config.Room {
		last := m.last()
		if last <= op.Tier {
			return answer(gate.Full)
		}
		row := m.ofTier(last)
		m.end(row[len(row)-1], tally.Full)
	}
	m.ticket++
	deadline := min(op.N, fix.Add(m.clock, m.config.Horizon))
	m.queue = append(m.queue, slab.Req{Ticket: m.ticket, Tier: op.Tier, Cohort: op.Cohort, Deadline: deadline, Arrived: m.clock})
	return admitted(m.ticket, op.Tier, op.Cohort)
}

func (m *model) last() int {
	last := 0
	for _, r := range m.queue {
		last = max(last, r.Tier)
	}
	return last
}

func (m *model) poll() core.Result {
	if m.phase == core.Drained {
		return answer(gate.Closed)
	}
	first := m.config.Tiers
	for tier := range m.config.Tiers {
		if len(m.ofTier(tier)) == 0 {
			m.codels[tier+1] = m.codels[tier+1].Empty()
		} else {
			first = min(first, tier)
		}
	}
	if first == m.config.Tiers {
		return answer(gate.Empty)
	}
	oldest := m.ofTier(first)[0]
	m.modes[first+1] = m.modes[first+1].Turn(m.config.Mode(), m.clock, m.clock-oldest.Arrived, len(m.ofTier(first)))
	m.drop(first)
	r := m.candidate(first)
	m.end(r, tally.Out)
	return dispatched(r.Ticket, r.Tier, r.Cohort, m.clock-r.Arrived)
}

func (m *model) candidate(tier int) slab.Req {
	row := m.ofTier(tier)
	if m.modes[tier+1].Lifo {
		return row[len(row)-1]
	}
	return row[0]
}

func (m *model) drop(t int) {
	state, p := &m.codels[t+1], m.config.Codel()
	about := func() (int64, int64, int) { return m.clock, m.clock - m.candidate(t).Arrived, len(m.ofTier(t)) }
	var decision int
	now, sojourn, backlog := about()
	*state, decision = state.Look(p, now, sojourn, backlog)
	for decision != codel.Keep {
		if last := m.last(); last != t {
			m.end(m.ofTier(last)[0], tally.Codel)
			return
		}
		m.end(m.candidate(t), tally.Codel)
		now, sojourn, backlog = about()
		if decision == codel.Once {
			*state = state.Note(p, now, sojourn, backlog)
			return
		}
		*state, decision = state.More(p, now, sojourn, backlog)
	}
}

func (m *model) sample(op core.Op) {
	m.pid = m.pid.Sample(m.config.Pid(), fix.Q(op.N))
	for key := m.config.Tiers*128 - 1; int64(key) >= m.edge(); key-- {
		for _, r := range slices.Clone(m.queue) {
			if r.Tier*128+r.Cohort == key {
				m.end(r, tally.Cut)
			}
		}
	}
}

// call is one of a script.
type call struct {
	now int64
	op  core.Op
}

func randomConfig(r *rand.Rand) conf.Config {
	c := conf.Default()
	c.Tiers, c.Room = 1+r.Intn(4), 1+r.Intn(14)
	c.Target, c.Interval = 1+r.Int63n(6), 1+r.Int63n(20)
	c.Low = r.Int63n(12)
	c.High, c.Dwell = c.Low+r.Int63n(12), r.Int63n(12)
	c.Horizon = c.Target + r.Int63n(60)
	c.Kp = fix.Whole(r.Int63n(100))
	c.Kd = fix.Whole(r.Int63n(3))
	c.Step = 1 + r.Int63n(300)
	if r.Intn(8) == 0 {
		c.Tiers, c.Room = api.MaxTiers, 60
	}
	return c
}

// randomOp is a Drain in about one of so many calls (0: in none).
func randomOp(r *rand.Rand, config conf.Config, now int64, drains int) core.Op {
	if drains > 0 && r.Intn(drains) == 0 {
		return drain(now + r.Int63n(40) - 2)
	}
	switch r.Intn(20) {
	case 0:
		return core.Op{Kind: core.Sample, N: r.Int63n(4) << 31}
	case 1:
		return core.Op{Kind: core.Sample}
	case 2:
		return wildOp(r)
	case 3, 4, 5, 6, 7:
		return poll()
	}
	return submit(r.Intn(config.Tiers), r.Intn(api.Cohorts), now+r.Int63n(50)-1)
}

// wildOp has fields that nobody means, but drains nothing.
func wildOp(r *rand.Rand) core.Op {
	op := core.Op{Kind: byte(r.Intn(256)), Tier: r.Intn(12) - 2, Cohort: r.Intn(140) - 5, N: int64(r.Uint64()) >> r.Intn(64)}
	switch r.Intn(4) {
	case 0:
		op.Kind = byte(r.Intn(3))
	case 1:
		op.Tier, op.Kind = int(r.Uint64()), core.Submit
	case 2:
		op.Cohort, op.Kind = int(r.Uint64()), core.Submit
	}
	if op.Kind == core.Drain {
		op.Kind++
	}
	return op
}

func randomScript(r *rand.Rand, config conf.Config, drains int) []call {
	var script []call
	now, pace := int64(0), 1+r.Int63n(8)
	for range 150 {
		now += r.Int63n(pace)
		script = append(script, call{now - r.Int63n(2)*r.Int63n(3), randomOp(r, config, now, drains)})
	}
	return script
}

// drainsOf differs by round: none, rare and many drains.
func drainsOf(round int) int { return []int{0, 0, 150, 40}[round%4] }

// P1, P2, and all of the chapter.
func TestAgainstModel(t *testing.T) {
	r := rand.New(rand.NewSource(16))
	met := map[byte]int{}
	ends := map[byte]int{}
	for round := range 1500 {
		config := randomConfig(r)
		c, again, m := newCore(t, config), newCore(t, config), newModel(config)
		for n, s := range randomScript(r, config, drainsOf(round)) {
			want := m.do(s.now, s.op)
			do(t, c, s.now, s.op, want)
			do(t, again, s.now, s.op, want)
			if got := viewOf(c); !got.equal(m.told()) {
				t.Fatalf("round %d, call %d %+v:\n%+v, not\n%+v", round, n, s, got, m.told())
			}
			met[want.Answer]++
		}
		if !viewOf(again).equal(viewOf(c)) {
			t.Fatal("the same calls of another core have another effect")
		}
		for _, o := range m.log {
			ends[o.Why]++
		}
	}
	for a := byte(gate.Admitted); a <= gate.Done; a++ {
		if met[a] < 50 {
			t.Error(gate.Name(a), "was met too seldom:", met[a])
		}
	}
	for why := byte(tally.Out); why <= tally.Drain; why++ {
		if ends[why] < 50 {
			t.Error("the reason", why, "was met too seldom:", ends[why])
		}
	}
}

// TestGreatestNumbers: P1 and the saturation at the ends of all numbers.
func TestGreatestNumbers(t *testing.T) {
	r := rand.New(rand.NewSource(17))
	times := []int64{math.MinInt64, -1, 0, 1, 5, 1 << 40, 1 << 62, most - 1<<51, most - 6, most - 1, most}
	some := func() int64 { return times[r.Intn(len(times))] }
	for range 400 {
		config := randomConfig(r)
		config.Target, config.Interval, config.Horizon = 1+r.Int63n(1<<40), 1+r.Int63n(1<<40), 1<<50
		config.High, config.Low, config.Dwell = most, some()&most, some()&most
		config.Setpoint, config.Kp, config.Ki, config.Kd = fix.Q(some()), fix.Q(some()&most), fix.Q(some()&most), fix.Q(some()&most)
		config.Limit, config.Step = fix.Q(some()&most), some()&most|1
		if config.Valid() != api.OK {
			t.Fatal(config)
		}
		c, m := newCore(t, config), newModel(config)
		at := times[2:]
		for n := range 60 {
			now := at[min(n/6, len(at)-1)]
			op := core.Op{Kind: byte(r.Intn(4)), Tier: r.Intn(5), Cohort: r.Intn(130), N: some()}
			if op.Kind == core.Drain && r.Intn(20) > 0 {
				op.Kind = core.Submit
			}
			do(t, c, now, op, m.do(now, op))
			if got := viewOf(c); !got.equal(m.told()) {
				t.Fatalf("%d %+v:\n%+v, not\n%+v", now, op, got, m.told())
			}
		}
	}
}

// TestLargestQueues: with as many requests as there can be.
func TestLargestQueues(t *testing.T) {
	config := waiting(api.MaxTiers, api.MaxRoom)
	config.Kp, config.Setpoint, config.Step = fix.One, 0, 1<<20
	r := rand.New(rand.NewSource(18))
	for _, last := range []core.Op{drain(0), level(400), level(1 << 20), poll()} {
		c, m := newCore(t, config), newModel(config)
		for n := range api.MaxRoom + 100 {
			op := submit(r.Intn(api.MaxTiers), r.Intn(api.Cohorts), 900+r.Int63n(500))
			do(t, c, int64(n/10), op, m.do(int64(n/10), op))
		}
		if len(c.Queue()) != api.MaxRoom {
			t.Fatal(len(c.Queue()))
		}
		for _, s := range []call{{200, poll()}, {400, poll()}, {1000, poll()}, {1000, last}, {1200, poll()}, {2000, poll()}} {
			do(t, c, s.now, s.op, m.do(s.now, s.op))
		}
		if !viewOf(c).equal(m.told()) {
			t.Error(last, "differs")
		}
	}
}
