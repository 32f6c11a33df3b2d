package codel_test

import (
	"math"
	"math/big"
	"math/rand"
	"testing"

	"overfall/codel"
)

const (
	most      = math.MaxInt64
	least     = math.MinInt64
	mostCount = math.MaxUint64
)

// usual is what RFC 8289 uses, in a small unit.
var usual = codel.Params{Target: 5, Interval: 100}

// dropping is a state in the midst of dropping.
func dropping(next int64, count uint64) codel.State {
	return codel.State{Above: true, First: 100, Dropping: true, Next: next, Count: count, Last: 1}
}

// P8.1

func TestNote(t *testing.T) {
	rest := codel.State{Dropping: true, Next: 7, Count: 8, Last: 9}
	for _, c := range []struct {
		name         string
		above        bool
		first        int64
		p            codel.Params
		now, sojourn int64
		backlog      int
		nowAbove     bool
		nowFirst     int64
	}{
		{"below the target", false, 0, usual, 10, 4, 2, false, 0},
		{"at the target", false, 0, usual, 10, 5, 2, true, 110},
		{"above the target", false, 0, usual, 10, 6, 2, true, 110},
		{"the only request", false, 0, usual, 10, 5, 1, false, 0},
		{"no request", false, 0, usual, 10, 5, 0, false, 0},
		{"fewer than none", false, 0, usual, 10, 5, math.MinInt, false, 0},
		{"many", false, 0, usual, 10, 5, math.MaxInt, true, 110},
		{"high again", true, 42, usual, 50, 5, 2, true, 42},
		{"high again, long after First", true, 42, usual, 5000, 5, 2, true, 42},
		{"high no more", true, 42, usual, 50, 4, 2, false, 0},
		{"the only one that is left", true, 42, usual, 50, 5, 1, false, 0},
		{"a First without Above", false, 42, usual, 50, 5, 2, true, 150},
		{"a First without Above, not high", false, 42, usual, 50, 4, 2, false, 0},
		{"saturated", false, 0, codel.Params{Target: 5, Interval: most}, 1, 5, 2, true, most},
		{"saturated by the time", false, 0, usual, most, 5, 2, true, most},
		{"saturated below", false, 0, codel.Params{Target: 5, Interval: -1}, least, 5, 2, true, least},
		{"an interval of 0", false, 0, codel.Params{Target: 5}, 30, 5, 2, true, 30},
		{"a target below 0", false, 0, codel.Params{Target: -5, Interval: 1}, 30, -5, 2, true, 31},
		{"a sojourn time below a target below 0", false, 0, codel.Params{Target: -5, Interval: 1}, 30, -6, 2, false, 0},
		{"the least target", false, 0, codel.Params{Target: least, Interval: 1}, 30, least, 2, true, 31},
		{"the greatest target", false, 0, codel.Params{Target: most, Interval: 1}, 30, most - 1, 2, false, 0},
	} {
		s, want := rest, rest
		s.Above, s.First = c.above, c.first
		want.Above, want.First = c.nowAbove, c.nowFirst
		if got := s.Note(c.p, c.now, c.sojourn, c.backlog); got != want {
			t.Errorf("%s: %+v, not %+v", c.name, got, want)
		}
	}
}

func TestWhenDroppingIsPermitted(t *testing.T) {
	above := codel.State{Above: true, First: 100, Count: 3, Last: 2}
	for _, c := range []struct {
		name         string
		s            codel.State
		now, sojourn int64
		backlog      int
		want         int
	}{
		{"just before First", above, 99, 5, 2, codel.Keep},
		{"at First", above, 100, 5, 2, codel.Once},
		{"after First", above, 101, 5, 2, codel.Once},
		{"not high", above, 101, 4, 2, codel.Keep},
		{"the only request", above, 101, 5, 1, codel.Keep},
		{"not Above before", codel.State{First: 100}, 200, 5, 2, codel.Keep},
		{"at the very first time", codel.State{}, most, 5, 2, codel.Keep},
		{"First below 0", codel.State{Above: true, First: -8}, -8, 5, 2, codel.Once},
	} {
		if _, got := c.s.Look(usual, c.now, c.sojourn, c.backlog); got != c.want {
			t.Errorf("%s: %d, not %d", c.name, got, c.want)
		}
	}
	// even an Interval that gives a First of now doesn't permit a drop at once
	if s, got := (codel.State{}).Look(codel.Params{Target: 5}, 10, 5, 2); got != codel.Keep || s != (codel.State{Above: true, First: 10}) {
		t.Error(s, got)
	}
}

// P8.2

func TestExample(t *testing.T) {
	s, got := (codel.State{}).Look(usual, 0, 5, 2)
	if got != codel.Keep || s != (codel.State{Above: true, First: 100}) {
		t.Fatal(s, got)
	}
	s, got = s.Look(usual, 100, 5, 2)
	if got != codel.Once || s != (codel.State{Above: true, First: 100, Dropping: true, Next: 200, Count: 1, Last: 1}) {
		t.Fatal(s, got)
	}
	s, got = s.Look(usual, 200, 5, 2)
	if got != codel.Drop || s != (codel.State{Above: true, First: 100, Dropping: true, Next: 200, Count: 2, Last: 1}) {
		t.Fatal(s, got)
	}
}

func TestLookWhileDropping(t *testing.T) {
	stopped := codel.State{Next: 200, Count: 3, Last: 1}
	for _, c := range []struct {
		name         string
		s            codel.State
		now, sojourn int64
		backlog      int
		want         codel.State
		answer       int
	}{
		{"before Next", dropping(200, 3), 199, 5, 2, dropping(200, 3), codel.Keep},
		{"at Next", dropping(200, 3), 200, 5, 2, dropping(200, 4), codel.Drop},
		{"after Next", dropping(200, 3), 201, 5, 2, dropping(200, 4), codel.Drop},
		{"not high", dropping(200, 3), 200, 4, 2, stopped, codel.Keep},
		{"the only request", dropping(200, 3), 200, 5, 1, stopped, codel.Keep},
		{"before First", dropping(50, 3), 99, 5, 2, codel.State{Above: true, First: 100, Next: 50, Count: 3, Last: 1}, codel.Keep},
		{"not Above before", codel.State{Dropping: true, Next: 200, Count: 3}, 200, 5, 2, codel.State{Above: true, First: 300, Next: 200, Count: 3}, codel.Keep},
		{"one below the greatest count", dropping(200, mostCount-1), 200, 5, 2, dropping(200, mostCount), codel.Drop},
		{"the greatest count", dropping(200, mostCount), 200, 5, 2, dropping(200, mostCount), codel.Drop},
	} {
		if s, got := c.s.Look(usual, c.now, c.sojourn, c.backlog); s != c.want || got != c.answer {
			t.Errorf("%s: %+v, %d, not %+v, %d", c.name, s, got, c.want, c.answer)
		}
	}
}

func TestDroppingBegins(t *testing.T) {
	for _, c := range []struct {
		name        string
		interval    int64
		now, next   int64
		count, last uint64
		want        uint64
		wantNext    int64
	}{
		{"no drop before", 100, 1000, 900, 4, 4, 1, 1100},
		{"one drop before", 100, 1000, 900, 5, 4, 1, 1100},
		{"two drops before", 100, 1000, 900, 6, 4, 2, 1070},
		{"three drops before", 100, 1000, 900, 7, 4, 3, 1057},
		{"2^63 drops before", 100, 1000, 900, 1<<63 + 4, 4, 1 << 63, 1000},
		{"2^63 + 1 drops before", 100, 1000, 900, 1<<63 + 5, 4, 1, 1100},
		{"less by one", 100, 1000, 900, 3, 4, 1, 1100},
		{"four modulo 2^64", 100, 1000, 900, 1, mostCount - 2, 4, 1050},
		{"just within 16 intervals", 100, 1000, 1000 - 1599, 8, 4, 4, 1050},
		{"16 intervals ago", 100, 1000, 1000 - 1600, 8, 4, 1, 1100},
		{"Next is still to come", 100, 1000, 5000, 8, 4, 4, 1050},
		{"a difference that saturates", 100, most, least, 8, 4, 1, most},
		{"a difference that saturates below", 100, 0, most, 8, 4, 4, 50},
		{"16 intervals that saturate", 1 << 60, 1000, 900, 8, 4, 4, 1000 + 1<<59},
		{"16 intervals that saturate, and so does the difference", 1 << 60, most, least, 8, 4, 1, most},
		{"an interval of 0", 0, 1000, 1000, 8, 4, 1, 1000},
		{"an interval of 0, Next still to come", 0, 1000, 1001, 8, 4, 4, 1000},
		{"an interval below 0", -100, 1000, 2600, 8, 4, 1, 1000},
		{"an interval below 0, Next long to come", -100, 1000, 2601, 8, 4, 4, 1000},
		{"a Next that saturates", 100, most - 50, most - 60, 7, 4, 3, most},
	} {
		s := codel.State{Above: true, First: least, Next: c.next, Count: c.count, Last: c.last}
		want := codel.State{Above: true, First: least, Dropping: true, Next: c.wantNext, Count: c.want, Last: c.want}
		if got, answer := s.Look(codel.Params{Target: 5, Interval: c.interval}, c.now, 5, 2); got != want || answer != codel.Once {
			t.Errorf("%s: %+v, %d, not %+v", c.name, got, answer, want)
		}
	}
}

func TestLookThatKeepsOutsideDropping(t *testing.T) {
	s := codel.State{Above: true, First: 100, Next: 7, Count: 8, Last: 2}
	if got, answer := s.Look(usual, 99, 5, 2); got != s || answer != codel.Keep {
		t.Error(got, answer)
	}
	if got, answer := s.Look(usual, 300, 4, 2); got != (codel.State{Next: 7, Count: 8, Last: 2}) || answer != codel.Keep {
		t.Error(got, answer)
	}
}

// P8.3

func TestMore(t *testing.T) {
	for _, c := range []struct {
		name         string
		s            codel.State
		now, sojourn int64
		backlog      int
		want         codel.State
		answer       int
	}{
		{"Next is still to come", dropping(200, 4), 249, 5, 2, dropping(250, 4), codel.Keep},
		{"Next is now", dropping(200, 4), 250, 5, 2, dropping(250, 5), codel.Drop},
		{"Next is over", dropping(200, 4), 251, 5, 2, dropping(250, 5), codel.Drop},
		{"the Law by the count ahead of the drop", dropping(200, 2), 300, 5, 2, dropping(270, 3), codel.Drop},
		{"a count of 0", dropping(200, 0), 300, 5, 2, dropping(300, 1), codel.Drop},
		{"not high", dropping(200, 4), 900, 4, 2, codel.State{Next: 200, Count: 4, Last: 1}, codel.Keep},
		{"the only request", dropping(200, 4), 900, 5, 1, codel.State{Next: 200, Count: 4, Last: 1}, codel.Keep},
		{"before First", dropping(-200, 4), 99, 5, 2, codel.State{Above: true, First: 100, Next: -200, Count: 4, Last: 1}, codel.Keep},
		{"not Above before", codel.State{Dropping: true, Next: 200, Count: 4, Last: 1}, 900, 5, 2, codel.State{Above: true, First: 1000, Next: 200, Count: 4, Last: 1}, codel.Keep},
		{"one below the greatest count", dropping(200, mostCount-1), 200, 5, 2, dropping(200, mostCount), codel.Drop},
		{"the greatest count", dropping(200, mostCount), 200, 5, 2, dropping(200, mostCount), codel.Drop},
		{"a Next that saturates, not now", dropping(most-10, 1), most - 1, 5, 2, dropping(most, 1), codel.Keep},
		{"a Next that saturates, now", dropping(most-10, 1), most, 5, 2, dropping(most, 2), codel.Drop},
	} {
		if s, got := c.s.More(usual, c.now, c.sojourn, c.backlog); s != c.want || got != c.answer {
			t.Errorf("%s: %+v, %d, not %+v, %d", c.name, s, got, c.want, c.answer)
		}
	}
}

func TestEmpty(t *testing.T) {
	full := codel.State{Above: true, First: 100, Dropping: true, Next: 7, Count: 8, Last: 9}
	if got := full.Empty(); got != (codel.State{Next: 7, Count: 8, Last: 9}) {
		t.Error(got)
	}
	if got := (codel.State{First: 100}).Empty(); got != (codel.State{}) {
		t.Error(got)
	}
	if got := (codel.State{}).Empty(); got != (codel.State{}) {
		t.Error(got)
	}
}

// turn looks at request after request at one time, as P16.4 does, and returns how many are dropped.
func turn(s codel.State, now int64) (codel.State, int) {
	drops := 0
	s, answer := s.Look(usual, now, 5, 9)
	for answer == codel.Drop {
		drops++
		s, answer = s.More(usual, now, 5, 9)
	}
	if answer == codel.Once {
		drops++
		s = s.Note(usual, now, 5, 9)
	}
	return s, drops
}

func TestThePaceOfDrops(t *testing.T) {
	var s codel.State
	var at []int64
	for now := range int64(500) {
		after, drops := turn(s, now)
		s = after
		for range drops {
			at = append(at, now)
		}
	}
	want := []int64{100, 200, 270, 327, 377, 421, 461, 498} // apart by 100, then by 100 / the root of 2, of 3 ..
	if len(at) != len(want) {
		t.Fatal(at)
	}
	for n := range want {
		if at[n] != want[n] {
			t.Fatal(at)
		}
	}
	if s, drops := turn(s, 600); drops != 3 || s.Next != 498+35+33+31+30 { // those that are late are made up for in one turn
		t.Error(s, drops)
	}
}

// The chapter's words once more, on numbers without bounds

func bound(x *big.Int) int64 {
	if x.Cmp(big.NewInt(most)) > 0 {
		return most
	}
	if x.Cmp(big.NewInt(least)) < 0 {
		return least
	}
	return x.Int64()
}

func plus(a, b int64) int64 { return bound(new(big.Int).Add(big.NewInt(a), big.NewInt(b))) }

func law(interval int64, n uint64) int64 {
	if interval < 0 {
		return 0
	}
	square := new(big.Int).Mul(big.NewInt(interval), big.NewInt(interval))
	square.Div(square, new(big.Int).SetUint64(max(n, 1)))
	return square.Sqrt(square).Int64()
}

type model struct {
	s         codel.State
	permitted bool
	answer    int
}

func (m *model) note(p codel.Params, now, sojourn int64, backlog int) {
	high := sojourn >= p.Target && backlog > 1
	m.permitted = high && m.s.Above && now >= m.s.First
	switch {
	case !high:
		m.s.Above, m.s.First = false, 0
	case !m.s.Above:
		m.s.Above, m.s.First = true, plus(now, p.Interval)
	}
}

func (m *model) count() {
	m.answer = codel.Drop
	if m.s.Count != mostCount {
		m.s.Count++
	}
}

func (m *model) look(p codel.Params, now int64) {
	switch {
	case m.s.Dropping && !m.permitted:
		m.s.Dropping = false
	case m.s.Dropping && now >= m.s.Next:
		m.count()
	case !m.s.Dropping && m.permitted:
		m.s.Dropping, m.answer = true, codel.Once
		d := m.s.Count - m.s.Last
		since := new(big.Int).Sub(big.NewInt(now), big.NewInt(m.s.Next))
		long := new(big.Int).Mul(big.NewInt(16), big.NewInt(p.Interval))
		m.s.Count = 1
		if d >= 2 && d <= 1<<63 && bound(since) < bound(long) {
			m.s.Count = d
		}
		m.s.Next, m.s.Last = plus(now, law(p.Interval, m.s.Count)), m.s.Count
	}
}

func (m *model) more(p codel.Params, now int64) {
	if !m.permitted {
		m.s.Dropping = false
		return
	}
	m.s.Next = plus(m.s.Next, law(p.Interval, m.s.Count))
	if now >= m.s.Next {
		m.count()
	}
}

func pick[T any](r *rand.Rand, l ...T) T { return l[r.Intn(len(l))] }

func number(r *rand.Rand) int64 {
	if r.Intn(3) > 0 {
		return int64(r.Intn(60)) - 10
	}
	return pick[int64](r, least, least+1, -1<<60, -1<<59, -1, 0, 1, 1<<59, 1<<59+1, 1<<60, most-1, most)
}

func count(r *rand.Rand) uint64 {
	if r.Intn(3) > 0 {
		return uint64(r.Intn(9))
	}
	return pick[uint64](r, 1<<63-1, 1<<63, 1<<63+1, 1<<63+2, mostCount-1, mostCount)
}

func TestAgainstModel(t *testing.T) {
	r := rand.New(rand.NewSource(8))
	answers := map[int]int{}
	for range 300000 {
		s := codel.State{Above: r.Intn(4) > 0, First: number(r), Dropping: r.Intn(2) > 0, Next: number(r), Count: count(r), Last: count(r)}
		p := codel.Params{Target: number(r), Interval: number(r)}
		now, sojourn, backlog := number(r), number(r), pick(r, math.MinInt, -1, 0, 1, 2, 3, 2, 3, math.MaxInt)
		noted := model{s: s}
		noted.note(p, now, sojourn, backlog)
		looked, mored := noted, noted
		looked.look(p, now)
		mored.more(p, now)
		for range 2 { // P2: the same call has the same answer
			if got := s.Note(p, now, sojourn, backlog); got != noted.s {
				t.Fatalf("Note of %+v, %+v, %d, %d, %d: %+v, not %+v", s, p, now, sojourn, backlog, got, noted.s)
			}
			if got, answer := s.Look(p, now, sojourn, backlog); got != looked.s || answer != looked.answer {
				t.Fatalf("Look of %+v, %+v, %d, %d, %d: %+v, %d, not %+v", s, p, now, sojourn, backlog, got, answer, looked)
			}
			if got, answer := s.More(p, now, sojourn, backlog); got != mored.s || answer != mored.answer {
				t.Fatalf("More of %+v, %+v, %d, %d, %d: %+v, %d, not %+v", s, p, now, sojourn, backlog, got, answer, mored)
			}
		}
		answers[looked.answer]++
		answers[10+mored.answer]++
	}
	for _, answer := range []int{codel.Keep, codel.Drop, codel.Once, 10 + codel.Keep, 10 + codel.Drop} {
		if answers[answer] < 1000 {
			t.Errorf("answer %d came %d times", answer, answers[answer])
		}
	}
}

func TestConstants(t *testing.T) {
	if codel.Keep != 0 || codel.Drop != 1 || codel.Once != 2 {
		t.Error(codel.Keep, codel.Drop, codel.Once)
	}
}
