package gate_test

import (
	"math"
	"math/big"
	"math/rand"
	"testing"

	"overfall/api"
	"overfall/conf"
	"overfall/gate"
)

const (
	most  = math.MaxInt64
	least = math.MinInt64
)

// tiers is the default configuration with so many tiers.
func tiers(n int) conf.Config {
	c := conf.Default()
	c.Tiers = n
	return c
}

func horizon(n int64) conf.Config {
	c := conf.Default()
	c.Horizon = n
	return c
}

// P14.1

func TestRight(t *testing.T) {
	for _, c := range []struct {
		tiers, tier, cohort int
		want                bool
	}{
		{4, 0, 0, true},
		{4, 3, 0, true},
		{4, 0, 127, true},
		{4, 3, 127, true},
		{4, 2, 64, true},
		{4, 4, 0, false},
		{4, -1, 0, false},
		{4, 0, 128, false},
		{4, 0, -1, false},
		{4, 3, 128, false},
		{4, 4, 127, false},
		{4, -1, -1, false},
		{4, 1, 1 << 32, false},
		{4, 1 << 32, 1, false},
		{1, 0, 5, true},
		{1, 1, 5, false},
		{8, 7, 5, true},
		{8, 8, 5, false},
		{0, 0, 0, false},
		{-1, -1, 0, false},
		{-1, 0, 0, false},
		{math.MinInt, 0, 0, false},
		{math.MinInt, math.MinInt, 0, false},
		{math.MinInt, math.MaxInt, 0, false}, // the least number less 1 would wrap round
		{4, math.MaxInt, 0, false},
		{4, math.MinInt, 0, false},
		{4, 0, math.MaxInt, false},
		{4, 0, math.MinInt, false},
	} {
		if got := gate.Right(tiers(c.tiers), c.tier, c.cohort); got != c.want {
			t.Errorf("%+v: %v", c, got)
		}
	}
}

func TestRightOnlyByTiers(t *testing.T) {
	if !gate.Right(conf.Config{Tiers: 3}, 2, 127) || gate.Right(conf.Config{}, 0, 0) {
		t.Error("the other fields count")
	}
}

func TestKey(t *testing.T) {
	for _, c := range []struct {
		tier, cohort int
		want         int64
	}{
		{0, 0, 0}, {0, 1, 1}, {0, 127, 127}, {1, 0, 128}, {1, 2, 130}, {3, 127, 511}, {7, 0, 896}, {7, 127, 1023},
	} {
		if got := gate.Key(c.tier, c.cohort); got != c.want {
			t.Errorf("%+v: %d", c, got)
		}
	}
}

func TestKeysIncrease(t *testing.T) {
	next := int64(0)
	for tier := range api.MaxTiers {
		for cohort := range api.Cohorts {
			if got := gate.Key(tier, cohort); got != next {
				t.Fatal(tier, cohort, got)
			}
			next++
		}
	}
	if next != tiers(api.MaxTiers).Most() {
		t.Error(next)
	}
}

func TestEdge(t *testing.T) {
	for _, c := range []struct {
		tiers       int
		level, want int64
	}{
		{4, 0, 512}, {4, 1, 511}, {4, 128, 384}, {4, 511, 1}, {4, 512, 0}, {4, 513, -1},
		{1, 0, 128}, {1, 128, 0}, {8, 0, 1024}, {8, 1024, 0},
		{4, -1, 513}, {4, -512, 1024},
		{4, most, 512 - most}, {4, least, most},
		{4, 512 - most, most}, {4, 511 - most, most}, // most + 1, saturated
		{0, most, -most}, {0, least, most}, {0, 0, 0}, {-1, 0, -128}, {-1, most, least},
		{-1, most - 128, least + 1}, {-1, most - 127, least}, {-1, most - 126, least}, // least - 1, saturated
	} {
		if got := gate.Edge(tiers(c.tiers), c.level); got != c.want {
			t.Errorf("%+v: %d", c, got)
		}
	}
}

func TestDeadline(t *testing.T) {
	for _, c := range []struct{ horizon, now, deadline, want int64 }{
		{1000, 0, 50, 50},
		{1000, 0, 999, 999},
		{1000, 0, 1000, 1000},
		{1000, 0, 1001, 1000},
		{1000, 0, most, 1000},
		{1000, 7, 1007, 1007},
		{1000, 7, 1008, 1007},
		{1000, 7, 7, 7}, // one that has passed stays
		{1000, 7, -3, -3},
		{1000, 7, least, least},
		{1000, -2000, 0, -1000},
		{1000, least, most, least + 1000},
		{1000, least, least, least},
		{1000, most - 1000, most, most},
		{1000, most - 1001, most, most - 1},
		{1000, most - 999, most, most}, // saturated
		{1000, most, most, most},
		{1000, most, 5, 5},
		{1 << 50, 3, 1<<50 + 4, 1<<50 + 3},
		{0, 7, 8, 7},
		{-5, 7, 8, 2},
		{least, -1, 8, least}, // saturated
		{most, 1, most, most},
	} {
		if got := gate.Deadline(horizon(c.horizon), c.now, c.deadline); got != c.want {
			t.Errorf("%+v: %d", c, got)
		}
	}
}

// P14.2: Judge

type judged struct {
	level, now   int64
	tier, cohort int
	deadline     int64
	want         byte
}

func TestJudge(t *testing.T) {
	for _, c := range []judged{
		{128, 0, 3, 0, 50, gate.Cutoff}, // the example
		{128, 0, 3, 127, 50, gate.Cutoff},
		{128, 0, 2, 0, 50, 0},
		{128, 0, 2, 127, 50, 0},
		{0, 0, 3, 127, 50, 0}, // nothing is cut off
		{1, 0, 3, 127, 50, gate.Cutoff},
		{1, 0, 3, 126, 50, 0},
		{127, 0, 3, 1, 50, gate.Cutoff},
		{127, 0, 3, 0, 50, 0},
		{129, 0, 2, 127, 50, gate.Cutoff},
		{129, 0, 2, 126, 50, 0},
		{511, 0, 0, 0, 50, 0},
		{511, 0, 0, 1, 50, gate.Cutoff},
		{512, 0, 0, 0, 50, gate.Cutoff}, // all is cut off
		{513, 0, 0, 0, 50, gate.Cutoff},
		{most, 0, 0, 0, 50, gate.Cutoff},
		{-1, 0, 3, 127, 50, 0},
		{least, 0, 3, 127, 50, 0},
		{0, 50, 0, 0, 51, 0},
		{0, 50, 0, 0, 50, gate.Expired},
		{0, 50, 0, 0, 49, gate.Expired},
		{0, 0, 0, 0, 0, gate.Expired},
		{0, -1, 0, 0, 0, 0},
		{0, most, 0, 0, most, gate.Expired},
		{0, most - 1, 0, 0, most, 0},
		{0, least, 0, 0, least, gate.Expired},
		{0, least, 0, 0, most, 0},
		{0, 0, 0, 0, most, 0}, // beyond the horizon, too
		{0, 0, 4, 0, 50, gate.Invalid},
		{0, 0, -1, 0, 50, gate.Invalid},
		{0, 0, 0, 128, 50, gate.Invalid},
		{0, 0, 0, -1, 50, gate.Invalid},
		{0, 0, math.MaxInt, math.MaxInt, 50, gate.Invalid},
		{0, 0, math.MinInt, math.MinInt, 50, gate.Invalid},
		{512, 50, 4, 0, 50, gate.Invalid}, // the first one of several
		{512, 50, 0, -1, 60, gate.Invalid},
		{0, 50, 0, 128, 50, gate.Invalid},
		{512, 50, 0, 0, 50, gate.Expired},
		{128, 50, 3, 0, 49, gate.Expired},
	} {
		got := gate.Judge(tiers(4), c.level, c.now, c.tier, c.cohort, c.deadline)
		if got != c.want {
			t.Errorf("%+v: %d", c, got)
		}
	}
}

func TestJudgeOfWrongConfigurations(t *testing.T) {
	for _, n := range []int{0, -1, math.MinInt} {
		if got := gate.Judge(tiers(n), 0, 0, 0, 0, 50); got != gate.Invalid {
			t.Errorf("%d tiers: %d", n, got)
		}
	}
	for _, n := range []int{9, 1 << 40, math.MaxInt} { // whatever it is, it ends
		gate.Judge(tiers(n), 5, 0, n-1, 127, 50)
		gate.Key(n, 127)
		gate.Edge(tiers(n), least)
	}
}

// TestTheCriticalComeFirst: a request with a smaller key is admitted whenever one with a larger one is.
func TestTheCriticalComeFirst(t *testing.T) {
	for n := 1; n <= api.MaxTiers; n++ {
		c := tiers(n)
		for level := int64(-1); level <= c.Most()+1; level++ {
			admitted := int64(0)
			for key := range int(c.Most()) {
				if gate.Judge(c, level, 0, key/api.Cohorts, key%api.Cohorts, 1) != 0 {
					break
				}
				admitted++
			}
			if want := min(max(c.Most()-level, 0), c.Most()); admitted != want {
				t.Fatalf("%d tiers, level %d: %d, not %d", n, level, admitted, want)
			}
		}
	}
}

// some is any number: near the edges, or of any size.
func some(r *rand.Rand) int64 {
	edges := []int64{0, 1, -1, 127, 128, 129, 384, 511, 512, 513, 1023, 1024, 1000, most, most - 1, least, least + 1}
	if r.Intn(2) == 0 {
		return edges[r.Intn(len(edges))]
	}
	return int64(r.Uint64()) >> r.Intn(64)
}

func saturated(n *big.Int) int64 {
	if n.Cmp(big.NewInt(most)) > 0 {
		return most
	}
	if n.Cmp(big.NewInt(least)) < 0 {
		return least
	}
	return n.Int64()
}

// judge is Judge by the words of P14.2, for so many tiers.
func judge(tiers int, level, now int64, tier, cohort int, deadline int64) byte {
	edge := saturated(new(big.Int).Sub(big.NewInt(128*int64(tiers)), big.NewInt(level)))
	switch {
	case tier < 0 || tier > tiers-1 || cohort < 0 || cohort > 127:
		return 2
	case deadline <= now:
		return 3
	case 128*int64(tier)+int64(cohort) >= edge:
		return 4
	}
	return 0
}

func TestAgainstPlainWords(t *testing.T) {
	r := rand.New(rand.NewSource(14))
	seen := map[byte]int{}
	for range 200000 {
		n := 1 + r.Intn(api.MaxTiers)
		c := horizon(some(r))
		c.Tiers = n
		level, now, deadline := some(r), some(r), some(r)
		tier, cohort := r.Intn(n+1), r.Intn(129)
		if r.Intn(8) == 0 {
			tier, cohort = int(some(r)), int(some(r))
		}
		got := gate.Judge(c, level, now, tier, cohort, deadline)
		if want := judge(n, level, now, tier, cohort, deadline); got != want {
			t.Fatalf("%d tiers, level %d, now %d, %d %d %d: %d, not %d", n, level, now, tier, cohort, deadline, got, want)
		}
		seen[got]++
		if got, want := gate.Edge(c, level), saturated(new(big.Int).Sub(big.NewInt(128*int64(n)), big.NewInt(level))); got != want {
			t.Fatalf("%d tiers, level %d: %d, not %d", n, level, got, want)
		}
		end := saturated(new(big.Int).Add(big.NewInt(now), big.NewInt(c.Horizon)))
		if got := gate.Deadline(c, now, deadline); got != min(end, deadline) {
			t.Fatalf("horizon %d at %d, %d: %d", c.Horizon, now, deadline, got)
		}
	}
	for _, answer := range []byte{0, gate.Invalid, gate.Expired, gate.Cutoff} {
		if seen[answer] < 1000 {
			t.Error(seen)
		}
	}
}

// P14.2: Name and Find

var named = map[byte]string{
	1: "admitted", 2: "invalid", 3: "expired", 4: "cutoff", 5: "full", 6: "draining",
	7: "dispatched", 8: "empty", 9: "closed", 10: "done", 11: "busy",
}

func TestAnswers(t *testing.T) {
	for i, answer := range []int{gate.Admitted, gate.Invalid, gate.Expired, gate.Cutoff, gate.Full, gate.Draining, gate.Dispatched, gate.Empty, gate.Closed, gate.Done, gate.Busy} {
		if answer != i+1 {
			t.Error(i, answer)
		}
	}
}

func TestName(t *testing.T) {
	for answer := range 256 {
		if got := gate.Name(byte(answer)); got != named[byte(answer)] {
			t.Errorf("%d: %q", answer, got)
		}
	}
}

func TestFind(t *testing.T) {
	for want, name := range named {
		if got, ok := gate.Find(name); !ok || got != want {
			t.Errorf("%q: %d, %v", name, got, ok)
		}
	}
	for _, name := range []string{"", " ", "Admitted", "ADMITTED", "admit", "admitteds", " admitted", "admitted ", "admitted\n", "fulldraining", "ful", "1", "0", "ok", "\x00", "late"} {
		if got, ok := gate.Find(name); ok || got != 0 {
			t.Errorf("%q: %d, %v", name, got, ok)
		}
	}
}

// P2 of the document: an answer hangs on nothing but the arguments.
func TestSameAnswerAgain(t *testing.T) {
	ask := func(level int64) (byte, int64) {
		return gate.Judge(tiers(4), level, 0, 2, 100, 50), gate.Edge(tiers(4), level)
	}
	for level := int64(0); level < 520; level += 13 {
		answer, edge := ask(level)
		ask(520 - level)
		if again, same := ask(level); again != answer || same != edge {
			t.Fatal(level, answer, again)
		}
	}
}
