package ring

import (
	"math/rand"
	"testing"
)

// board is the ring as the chapter tells it: the sequence numbers and the values of its slots, side by side.
type board struct {
	tail, head       uint64
	sequence, values []uint64
}

// piece is an act on a board: kind 'u' for Push, 'j' for Join, 'o' for Pop; line is the number of its next step, 0 when it has ended.
type piece struct {
	kind         byte
	line         int
	t, v         uint64
	ok           bool
	value, place uint64
}

func newBoard(capacity int, from uint64) *board {
	b := &board{from, from, make([]uint64, capacity), make([]uint64, capacity)}
	for i := range uint64(capacity) {
		b.sequence[(from+i)%uint64(capacity)] = from + i
	}
	return b
}

func (b *board) move(p *piece) {
	c := uint64(len(b.sequence))
	end, ready := &b.tail, p.t
	if p.kind == 'o' {
		end, ready = &b.head, p.t+1
	}
	switch p.line {
	case 1:
		p.t, p.line = *end, 2
		if p.kind == 'j' {
			*end++
			p.place, p.line = p.t, 4
		}
	case 2:
		is := b.sequence[p.t%c]
		switch {
		case is == ready:
			p.line = 3
		case is-ready >= 1<<63:
			p.line = 0
		default:
			p.line = 1
		}
	case 3:
		p.line = 1
		if *end == p.t {
			*end++
			p.place, p.line = p.t, 4
		}
	case 4:
		if p.kind == 'o' {
			p.value = b.values[p.t%c]
			b.sequence[p.t%c] = p.t + c
		} else {
			b.values[p.t%c] = p.v
			b.sequence[p.t%c] = p.t + 1
		}
		p.ok, p.line = true, 0
	}
}

// ringFrom returns a ring at a tail and a head that no test would reach by pushing.
func ringFrom(capacity int, from uint64) *Ring {
	r, _ := New(capacity)
	r.tail.Store(from)
	r.head.Store(from)
	for i := range uint64(capacity) {
		r.slot(from + i).sequence.Store(from + i)
	}
	return r
}

func begin(r *Ring, kind byte, v uint64) *Act {
	switch kind {
	case 'u':
		return r.Push(v)
	case 'j':
		return r.Join(v)
	}
	return r.Pop()
}

func expectSame(t *testing.T, r *Ring, b *board, a *Act, p *piece) {
	t.Helper()
	if r.Tail() != b.tail || r.Head() != b.head {
		t.Fatalf("%c: from %d to %d, not from %d to %d", p.kind, r.Head(), r.Tail(), b.head, b.tail)
	}
	for i := range r.slots {
		if s := r.slots[i].sequence.Load(); s != b.sequence[i] {
			t.Fatalf("%c: slot %d has number %d, not %d", p.kind, i, s, b.sequence[i])
		}
	}
	if a.Ended() != (p.line == 0) || a.OK() != p.ok || a.Value() != p.value || a.Place() != p.place {
		t.Fatalf("%c: %v, %v, %d, %d; not %v, %v, %d, %d", p.kind, a.Ended(), a.OK(), a.Value(), a.Place(), p.line == 0, p.ok, p.value, p.place)
	}
}

// play executes steps of some acts at once in a random order, on a ring and on the board.
func play(t *testing.T, g *rand.Rand, capacity int, from uint64, kinds string) {
	r, b := ringFrom(capacity, from), newBoard(capacity, from)
	var acts [4]*Act
	var pieces [4]*piece
	for range 400 {
		i := g.Intn(len(acts))
		if acts[i] == nil || acts[i].Ended() && g.Intn(2) == 0 || g.Intn(50) == 0 {
			kind := kinds[g.Intn(len(kinds))]
			v := g.Uint64()
			acts[i], pieces[i] = begin(r, kind, v), &piece{kind: kind, line: 1, v: v}
			expectSame(t, r, b, acts[i], pieces[i])
		}
		ended := acts[i].Step()
		b.move(pieces[i])
		expectSame(t, r, b, acts[i], pieces[i])
		if ended != acts[i].Ended() {
			t.Fatal("Step and Ended differ")
		}
	}
}

// P4.1, P4.2: whatever the order of the steps, each does what the chapter says, also when Joins overfill the ring and where positions wrap round.
func TestStepsInAnyOrder(t *testing.T) {
	g := rand.New(rand.NewSource(5))
	for _, kinds := range []string{"uo", "uuo", "uoo", "jo", "ujo", "ujoooo", "u", "o", "j"} {
		for _, from := range []uint64{0, 1, 1<<63 - 5, 1<<64 - 1, 1<<64 - 2, 1<<64 - 20} {
			for _, capacity := range []int{2, 4, 8, 64} {
				for range 10 {
					play(t, g, capacity, from, kinds)
				}
			}
		}
	}
}

// P4.1: numbers are modulo 2^64.
func TestPositionsWrapRound(t *testing.T) {
	const from = 1<<64 - 3
	r := ringFrom(4, from)
	for round := range uint64(3) {
		for i := range uint64(4) {
			if !r.TryPush(i) {
				t.Fatal("no room")
			}
		}
		if r.TryPush(9) || r.Tail()-from != 4*round+4 || r.Head()-from != 4*round {
			t.Fatal("room beyond the capacity", r.Tail(), r.Head())
		}
		for i := range uint64(4) {
			if v, ok := r.TryPop(); v != i || !ok {
				t.Fatal(v, ok)
			}
		}
		if v, ok := r.TryPop(); v != 0 || ok {
			t.Fatal(v, ok)
		}
	}
}

// P4.2: less and greater are told by the sign of the difference modulo 2^64, however far a number is.
func TestSignOfDifference(t *testing.T) {
	signs := map[uint64]int{0: 0, 1: 1, 1 << 31: 1, 1 << 32: 1, 1<<63 - 1: 1, 1 << 63: -1, 1<<63 + 1: -1, 1<<64 - 1<<32: -1, 1<<64 - 1: -1}
	for _, from := range []uint64{0, 1, 1 << 32, 1<<63 - 1, 1 << 63, 1<<64 - 1} {
		for ahead, sign := range signs {
			r := ringFrom(2, from)
			for _, c := range []struct {
				a     *Act
				ready uint64
				next  map[int]stage
			}{
				{r.Push(1), from, map[int]stage{-1: failed, 0: claimTail, 1: readTail}},
				{r.Pop(), from + 1, map[int]stage{-1: failed, 0: claimHead, 1: readHead}},
			} {
				r.slot(from).sequence.Store(c.ready + ahead)
				c.a.Step()
				if ended := c.a.Step(); ended != (sign < 0) || c.a.next != c.next[sign] {
					t.Fatalf("from %d, %d ahead: %d is next, not %d", from, ahead, c.a.next, c.next[sign])
				}
			}
		}
	}
}

func TestFirstSequenceNumbers(t *testing.T) {
	r, _ := New(64)
	for i := range r.slots {
		if r.slots[i].sequence.Load() != uint64(i) {
			t.Errorf("slot %d has number %d", i, r.slots[i].sequence.Load())
		}
	}
}

// allOrders executes acts of the kinds in every order of their steps, each on a new ring, and returns how many orders there are.
func allOrders(kinds string, check func(acts []*Act, r *Ring)) int {
	n := 0
	var follow func(order []int)
	follow = func(order []int) {
		r, _ := New(2)
		acts := make([]*Act, len(kinds))
		for i := range acts {
			acts[i] = begin(r, kinds[i], uint64(10+i))
		}
		for _, i := range order {
			acts[i].Step()
		}
		over := true
		for i, a := range acts {
			if !a.Ended() {
				over = false
				follow(append(order[:len(order):len(order)], i))
			}
		}
		if over {
			n++
			check(acts, r)
		}
	}
	follow(nil)
	return n
}

// P4.2: in each order of steps no place is claimed twice at an end, and what is popped at a place was pushed there.
func TestAllOrders(t *testing.T) {
	for _, kinds := range []string{"uo", "jo", "oo", "uu", "jj", "uuo", "uoo", "juo", "joo"} {
		n := allOrders(kinds, func(acts []*Act, r *Ring) {
			pushed, popped := map[uint64]uint64{}, map[uint64]uint64{}
			for i, a := range acts {
				if a.OK() && kinds[i] == 'o' {
					popped[a.Place()] = a.Value()
				} else if a.OK() {
					pushed[a.Place()] = uint64(10 + i)
				}
				if kinds[i] != 'o' && !a.OK() {
					t.Fatalf("%s: full with room for all", kinds)
				}
			}
			if uint64(len(pushed)) != r.Tail() || uint64(len(popped)) != r.Head() {
				t.Fatalf("%s: pushed %v up to %d, popped %v up to %d", kinds, pushed, r.Tail(), popped, r.Head())
			}
			for place, v := range popped {
				if pushed[place] != v {
					t.Fatalf("%s: pushed %v, popped %v", kinds, pushed, popped)
				}
			}
		})
		if n < 2 {
			t.Errorf("%s: %d orders", kinds, n)
		}
	}
}

// P4.3, where others have moved the ring on between the steps: TryPush and TryPop do not give up an act that is to begin anew.
func TestOnlyAnActThatIsStuckIsLeft(t *testing.T) {
	r, _ := New(4)
	push := r.Push(2)
	push.Step()
	r.TryPush(1)
	push.finish()
	pop := r.Pop()
	pop.Step()
	r.TryPop()
	pop.finish()
	if !push.OK() || !pop.OK() || pop.Value() != 2 {
		t.Fatal(push.OK(), pop.OK(), pop.Value())
	}
}
