package ring_test

import (
	"math"
	"math/rand"
	"runtime"
	"sync"
	"testing"
	"time"

	"overfall/api"
	"overfall/ring"
)

const full = math.MaxUint64

func newRing(t *testing.T, capacity int) *ring.Ring {
	t.Helper()
	r, e := ring.New(capacity)
	if r == nil || e != api.OK {
		t.Fatalf("New of %d: %v, %d", capacity, r, e)
	}
	return r
}

func expectEnds(t *testing.T, r *ring.Ring, tail, head uint64) {
	t.Helper()
	if r.Tail() != tail || r.Head() != head {
		t.Fatalf("from %d to %d, not from %d to %d", r.Head(), r.Tail(), head, tail)
	}
}

// steps executes n steps, of which none may end the act.
func steps(t *testing.T, a *ring.Act, n int) {
	t.Helper()
	for i := range n {
		if a.Step() || a.Ended() || a.OK() || a.Value() != 0 {
			t.Fatalf("ended by step %d: OK %v, value %d", i+1, a.OK(), a.Value())
		}
	}
}

// lastStep executes the step that ends the act, and some more, which must change nothing.
func lastStep(t *testing.T, a *ring.Act, ok bool, value, place uint64) {
	t.Helper()
	for range 3 {
		if !a.Step() || !a.Ended() || a.OK() != ok || a.Value() != value || a.Place() != place {
			t.Fatalf("ended %v, OK %v, value %d, place %d; not %v, %d, %d", a.Ended(), a.OK(), a.Value(), a.Place(), ok, value, place)
		}
	}
}

// whole executes an act of n steps.
func whole(t *testing.T, a *ring.Act, n int, ok bool, value, place uint64) {
	t.Helper()
	if a.Ended() || a.OK() || a.Value() != 0 || a.Place() != 0 {
		t.Fatal("ended before its first step")
	}
	steps(t, a, n-1)
	lastStep(t, a, ok, value, place)
}

// P4.1

func TestNewCapacities(t *testing.T) {
	right := map[int]bool{2: true, 4: true, 8: true, 16: true, 32: true, 64: true}
	wrong := []int{math.MinInt, math.MinInt + 1, -1 << 32, math.MaxInt, math.MaxInt - 1, 1 << 32, 1 << 62, 1<<32 + 2, 256, 512, 1024}
	for capacity := -70; capacity <= 140; capacity++ {
		if !right[capacity] {
			wrong = append(wrong, capacity)
			continue
		}
		r := newRing(t, capacity)
		expectEnds(t, r, 0, 0)
		if r.Cap() != capacity {
			t.Errorf("the capacity is %d, not %d", r.Cap(), capacity)
		}
	}
	for _, capacity := range wrong {
		if r, e := ring.New(capacity); r != nil || e != api.ErrArg {
			t.Errorf("New of %d: %v, %d", capacity, r, e)
		}
	}
}

func TestCapacityAndEnds(t *testing.T) {
	for _, capacity := range []int{2, 4, 8, 16, 32, 64} {
		r := newRing(t, capacity)
		c := uint64(capacity)
		for round := range uint64(5) {
			start := round * c
			expectEnds(t, r, start, start)
			for i := range c {
				if !r.TryPush(start + i) {
					t.Fatalf("%d: no room for value %d", capacity, i)
				}
				expectEnds(t, r, start+i+1, start)
			}
			if r.TryPush(7) {
				t.Fatalf("%d: room for one too many", capacity)
			}
			expectEnds(t, r, start+c, start)
			for i := range c {
				if v, ok := r.TryPop(); !ok || v != start+i {
					t.Fatalf("%d: value %d is %d, %v", capacity, start+i, v, ok)
				}
				expectEnds(t, r, start+c, start+i+1)
			}
			if v, ok := r.TryPop(); ok || v != 0 {
				t.Fatalf("%d: %d taken from an empty ring", capacity, v)
			}
		}
		if r.Cap() != capacity {
			t.Fatalf("the capacity became %d", r.Cap())
		}
	}
}

func TestRingsShareNothing(t *testing.T) {
	r, s := newRing(t, 2), newRing(t, 2)
	r.TryPush(5)
	expectEnds(t, s, 0, 0)
	if _, ok := s.TryPop(); ok {
		t.Error("taken from another ring")
	}
}

// P4.2

func TestStepsOfActs(t *testing.T) {
	r := newRing(t, 2)
	whole(t, r.Pop(), 2, false, 0, 0) // empty
	whole(t, r.Push(5), 4, true, 0, 0)
	whole(t, r.Join(6), 2, true, 0, 1)
	whole(t, r.Push(7), 2, false, 0, 0) // full
	expectEnds(t, r, 2, 0)
	whole(t, r.Pop(), 4, true, 5, 0)
	whole(t, r.Push(7), 4, true, 0, 2)
	whole(t, r.Pop(), 4, true, 6, 1)
	whole(t, r.Pop(), 4, true, 7, 2)
	whole(t, r.Pop(), 2, false, 0, 0)
	expectEnds(t, r, 3, 3)
}

func TestAnyValueIsTaken(t *testing.T) {
	r := newRing(t, 2)
	for i, v := range []uint64{0, 1, full, 1 << 63, 0} {
		place := uint64(2 * i)
		whole(t, r.Push(v), 4, true, 0, place)
		whole(t, r.Pop(), 4, true, v, place)
		whole(t, r.Join(v), 2, true, 0, place+1)
		whole(t, r.Pop(), 4, true, v, place+1)
	}
}

func TestPushIsSeenStepByStep(t *testing.T) {
	r := newRing(t, 4)
	r.TryPush(1)
	a := r.Push(2)
	expectEnds(t, r, 1, 0) // nothing happens ahead of the first step
	steps(t, a, 2)
	if a.Place() != 0 {
		t.Fatal("placed before it is claimed")
	}
	expectEnds(t, r, 1, 0)
	steps(t, a, 1)
	if a.Place() != 1 {
		t.Fatal("claimed and not placed")
	}
	expectEnds(t, r, 2, 0)
	r.TryPop()
	whole(t, r.Pop(), 2, false, 0, 0) // claimed and not filled counts as empty
	lastStep(t, a, true, 0, 1)
	whole(t, r.Pop(), 4, true, 2, 1)
}

func TestJoinIsSeenStepByStep(t *testing.T) {
	r := newRing(t, 2)
	r.TryPush(1)
	a := r.Join(2)
	expectEnds(t, r, 1, 0)
	steps(t, a, 1)
	if a.Place() != 1 {
		t.Fatal("claimed and not placed")
	}
	expectEnds(t, r, 2, 0)
	r.TryPop()
	whole(t, r.Pop(), 2, false, 0, 0)
	lastStep(t, a, true, 0, 1)
	whole(t, r.Pop(), 4, true, 2, 1)
}

func TestPopIsSeenStepByStep(t *testing.T) {
	r := newRing(t, 2)
	r.TryPush(5)
	r.TryPush(6)
	a := r.Pop()
	steps(t, a, 2)
	expectEnds(t, r, 2, 0)
	steps(t, a, 1)
	expectEnds(t, r, 2, 1)
	whole(t, r.Push(7), 2, false, 0, 0) // claimed and not taken counts as full
	b := r.Pop()
	steps(t, b, 3)
	if b.Place() != 1 {
		t.Fatal("claimed and not placed")
	}
	lastStep(t, b, true, 6, 1)
	whole(t, r.Push(7), 2, false, 0, 0) // the slot behind is free, but not the next one
	lastStep(t, a, true, 5, 0)
	whole(t, r.Push(7), 4, true, 0, 2)
}

func TestPushBeginsAnew(t *testing.T) {
	for lead := 1; lead <= 2; lead++ { // the other one is ahead of the check, or of the claim
		r := newRing(t, 4)
		a := r.Push(2)
		steps(t, a, lead)
		r.TryPush(1)
		steps(t, a, 1) // the check finds the slot filled, or the claim finds the tail moved on
		expectEnds(t, r, 1, 0)
		steps(t, a, 3)
		lastStep(t, a, true, 0, 1)
		whole(t, r.Pop(), 4, true, 1, 0)
		whole(t, r.Pop(), 4, true, 2, 1)
	}
}

func TestPopBeginsAnew(t *testing.T) {
	for lead := 1; lead <= 2; lead++ {
		r := newRing(t, 4)
		r.TryPush(1)
		r.TryPush(2)
		a := r.Pop()
		steps(t, a, lead)
		if v, ok := r.TryPop(); !ok || v != 1 {
			t.Fatal(v, ok)
		}
		steps(t, a, 1)
		expectEnds(t, r, 2, 1)
		steps(t, a, 3)
		lastStep(t, a, true, 2, 1)
	}
}

func TestActsThatBeginAnewMayEndUnsuccessfully(t *testing.T) {
	r := newRing(t, 2)
	r.TryPush(1)
	push, pop := r.Push(3), r.Pop()
	steps(t, push, 1)
	steps(t, pop, 1)
	r.TryPush(2)
	steps(t, push, 2)
	lastStep(t, push, false, 0, 0) // full in the meantime
	r.TryPop()
	r.TryPop()
	steps(t, pop, 2)
	lastStep(t, pop, false, 0, 0) // empty in the meantime
	expectEnds(t, r, 2, 2)
}

// An old tail whose slot has been filled and freed since is found by the sign of the difference, not by one value.
func TestPushBeginsAnewFarBehind(t *testing.T) {
	r := newRing(t, 2)
	push, pop := r.Push(9), r.Pop()
	steps(t, push, 1)
	steps(t, pop, 1)
	for range 7 {
		r.TryPush(1)
		r.TryPop()
	}
	steps(t, push, 1+3)
	lastStep(t, push, true, 0, 7)
	steps(t, pop, 1+3)
	lastStep(t, pop, true, 9, 7)
}

func TestJoinsNeverFail(t *testing.T) {
	r := newRing(t, 2)
	a, b := r.Join(1), r.Join(2)
	steps(t, a, 1)
	steps(t, b, 1)
	lastStep(t, b, true, 0, 1)
	whole(t, r.Pop(), 2, false, 0, 0) // the first one is not filled
	lastStep(t, a, true, 0, 0)
	whole(t, r.Pop(), 4, true, 1, 0)
	whole(t, r.Pop(), 4, true, 2, 1)
	for i := range uint64(20) {
		whole(t, r.Join(i), 2, true, 0, i+2)
		whole(t, r.Pop(), 4, true, i, i+2)
	}
}

func TestMoreJoinsThanSlots(t *testing.T) {
	r := newRing(t, 2)
	for i := range uint64(3) {
		whole(t, r.Join(10+i), 2, true, 0, i) // the slot is not checked
	}
	expectEnds(t, r, 3, 0)
	steps(t, r.Pop(), 100) // greater: continued with 1, each time
	if v, ok := r.TryPop(); v != 0 || ok {
		t.Fatal(v, ok) // each call ends
	}
	whole(t, r.Push(7), 2, false, 0, 0)
	expectEnds(t, r, 3, 0)
}

// P4.3

func TestTryExample(t *testing.T) {
	r := newRing(t, 2)
	if !r.TryPush(5) || !r.TryPush(6) || r.TryPush(7) {
		t.Error("5 and 6 have room, 7 has none")
	}
	if v, ok := r.TryPop(); v != 5 || !ok {
		t.Error(v, ok)
	}
	if !r.TryPush(0) {
		t.Error("no room for 0")
	}
	for _, want := range []uint64{6, 0} {
		if v, ok := r.TryPop(); v != want || !ok {
			t.Error(v, ok)
		}
	}
	if v, ok := r.TryPop(); v != 0 || ok {
		t.Error(v, ok)
	}
}

func TestNil(t *testing.T) {
	var r *ring.Ring
	if r.Cap() != 0 || r.Tail() != 0 || r.Head() != 0 || r.TryPush(1) {
		t.Error("a nil ring has something")
	}
	if v, ok := r.TryPop(); v != 0 || ok {
		t.Error(v, ok)
	}
	for _, a := range []*ring.Act{nil, r.Push(1), r.Join(1), r.Pop()} {
		if a != nil {
			t.Error("an act of a nil ring")
		}
		if !a.Step() || !a.Ended() || a.OK() || a.Value() != 0 || a.Place() != 0 {
			t.Error("a nil act has something")
		}
	}
}

// P1 and P2 of the document: calls end, and what they answer hangs on nothing but the calls before them.
func TestSameAnswerAgain(t *testing.T) {
	ask := func() []uint64 {
		r, _ := ring.New(4)
		var answers []uint64
		g := rand.New(rand.NewSource(4))
		for range 5000 {
			switch g.Intn(3) {
			case 0:
				r.TryPush(g.Uint64())
			case 1:
				r.Join(g.Uint64()).Step()
			default:
				v, _ := r.TryPop()
				answers = append(answers, v)
			}
			answers = append(answers, r.Tail(), r.Head())
		}
		return answers
	}
	first, again := ask(), ask()
	for i := range first {
		if first[i] != again[i] {
			t.Fatalf("answer %d: %d, then %d", i, first[i], again[i])
		}
	}
}

// Many threads at once

// crowd runs n workers at once and waits for them.
func crowd(n int, work func(id int)) {
	var w sync.WaitGroup
	for id := range n {
		w.Go(func() { work(id) })
	}
	w.Wait()
}

// retried repeats what others may hold up for a while, and gives up where a fault holds it up for ever.
func retried(try func() bool) bool {
	for start := time.Now(); !try(); runtime.Gosched() {
		if time.Since(start) > 20*time.Second {
			return false
		}
	}
	return true
}

// run executes an act of its own for each try.
func run(begin func() *ring.Act) (a *ring.Act) {
	retried(func() bool {
		a = begin()
		return retried(a.Step) && a.OK()
	})
	return a
}

type taken struct{ value, place uint64 }

// takeAll pops with some workers at once, each as many values, and returns each worker's in the order in which it took them.
func takeAll(r *ring.Ring, workers, each int) [][]taken {
	all := make([][]taken, workers)
	crowd(workers, func(id int) {
		for range each {
			a := run(r.Pop)
			if !a.OK() {
				return
			}
			all[id] = append(all[id], taken{a.Value(), a.Place()})
		}
	})
	return all
}

// expectInOrder checks that each of the values was taken once, and those of one thread by increasing places.
func expectInOrder(t *testing.T, all [][]taken, workers, each int) {
	t.Helper()
	at := make([]uint64, workers*each)
	for i := range at {
		at[i] = full
	}
	seen := map[uint64]bool{}
	for _, l := range all {
		for i, x := range l {
			if x.value >= uint64(len(at)) || at[x.value] != full || seen[x.place] {
				t.Fatalf("%d at %d: taken twice, or never put in", x.value, x.place)
			}
			at[x.value], seen[x.place] = x.place, true
			if i > 0 && l[i-1].place >= x.place {
				t.Fatalf("%d at %d: taken after a later place", x.value, x.place)
			}
		}
	}
	for v := range at {
		if at[v] == full || v%each > 0 && at[v-1] > at[v] {
			t.Fatalf("%d at %d: lost, or ahead of the value before it", v, at[v])
		}
	}
}

func TestManyPushAndPop(t *testing.T) {
	const workers, each = 6, 3000
	for _, capacity := range []int{2, 4, 64} {
		r := newRing(t, capacity)
		var pushers sync.WaitGroup
		pushers.Go(func() {
			crowd(workers, func(id int) {
				for i := range each {
					if !retried(func() bool { return r.TryPush(uint64(id*each + i)) }) {
						return
					}
				}
			})
		})
		all := takeAll(r, workers, each)
		pushers.Wait()
		expectInOrder(t, all, workers, each)
		expectEnds(t, r, workers*each, workers*each)
	}
}

// P4.2: claiming is one access, so however many claim at once, each gets a position of its own.
func TestManyClaim(t *testing.T) {
	const workers, each = 8, 20000
	r := newRing(t, 64)
	var places [workers][each]uint64
	crowd(workers, func(id int) {
		for i := range each {
			a := r.Join(1)
			a.Step()
			places[id][i] = a.Place()
		}
	})
	expectEnds(t, r, workers*each, 0)
	seen := map[uint64]bool{}
	for id := range places {
		for _, place := range places[id] {
			if seen[place] || place >= workers*each {
				t.Fatalf("%d is claimed twice, or never was the tail", place)
			}
			seen[place] = true
		}
	}
}

// Each thread Joins anew only when its value was taken, so no more positions than threads are claimed and not popped.
func TestManyJoin(t *testing.T) {
	const workers, each = 8, 2000
	r := newRing(t, workers)
	var told [workers]chan bool
	for i := range told {
		told[i] = make(chan bool, each)
	}
	var joiners sync.WaitGroup
	joiners.Go(func() {
		crowd(workers, func(id int) {
			for i := range each {
				run(func() *ring.Act { return r.Join(uint64(id*each + i)) })
				<-told[id]
			}
		})
	})
	var all []taken
	for len(all) < workers*each {
		a := run(r.Pop)
		if !a.OK() || a.Value() >= workers*each {
			break
		}
		all = append(all, taken{a.Value(), a.Place()})
		told[a.Value()/each] <- true
	}
	for i := range told {
		close(told[i])
	}
	joiners.Wait()
	expectInOrder(t, [][]taken{all}, workers, each)
	expectEnds(t, r, workers*each, workers*each)
}
