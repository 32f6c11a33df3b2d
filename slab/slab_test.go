package slab_test

import (
	"math"
	"math/rand"
	"testing"

	"overfall/api"
	"overfall/slab"
)

func request(n uint64) slab.Req {
	return slab.Req{Ticket: n, Tier: int(n % 8), Cohort: int(n % 128), Deadline: math.MaxInt64 - int64(n), Arrived: -int64(n)}
}

func newSlab(t *testing.T, room int) *slab.Slab {
	t.Helper()
	s, e := slab.New(room)
	if e != api.OK || s == nil {
		t.Fatalf("New(%d): %v", room, e)
	}
	return s
}

func take(t *testing.T, s *slab.Slab, q slab.Req, want slab.Handle) {
	t.Helper()
	if h, e := s.Take(q); h != want || e != api.OK {
		t.Fatalf("Take is %x, %d, not %x", uint64(h), e, uint64(want))
	}
}

func free(t *testing.T, s *slab.Slab, h slab.Handle) {
	t.Helper()
	if e := s.Free(h); e != api.OK {
		t.Fatalf("Free of %x: %d", uint64(h), e)
	}
}

// P5.1

func TestNewEdges(t *testing.T) {
	for _, room := range []int{math.MinInt, -1, 0, api.MaxRoom + 1, math.MaxInt} {
		if s, e := slab.New(room); s != nil || e != api.ErrArg {
			t.Errorf("New(%d): %v, %d", room, s, e)
		}
	}
	for _, room := range []int{1, 2, 3, api.MaxRoom} {
		s := newSlab(t, room)
		if s.Len() != 0 || s.Room() != room {
			t.Errorf("New(%d): %d of %d", room, s.Len(), s.Room())
		}
		for i := range room {
			take(t, s, request(uint64(i)), slab.Handle(1<<32+i))
			if s.Len() != i+1 || s.Room() != room {
				t.Errorf("after %d: %d of %d", i+1, s.Len(), s.Room())
			}
		}
		if h, e := s.Take(request(9)); h != 0 || e != api.ErrFull || s.Len() != room {
			t.Errorf("beyond the room of %d: %x, %d", room, uint64(h), e)
		}
	}
}

// P5.2

func TestExample(t *testing.T) {
	s := newSlab(t, 2)
	take(t, s, request(1), 0x100000000)
	take(t, s, request(2), 0x100000001)
	free(t, s, 0x100000000)
	take(t, s, request(3), 0x200000000)
}

func TestFreedLastIsTakenFirst(t *testing.T) {
	s := newSlab(t, 5)
	for i := range slab.Handle(4) {
		take(t, s, request(uint64(i)), 1<<32+i)
	}
	free(t, s, 1<<32+1)
	free(t, s, 1<<32+3)
	free(t, s, 1<<32+0)
	take(t, s, request(10), 2<<32+0)
	free(t, s, 1<<32+2)
	take(t, s, request(11), 2<<32+2)
	take(t, s, request(12), 2<<32+3)
	take(t, s, request(13), 2<<32+1)
	take(t, s, request(14), 1<<32+4) // never freed: only once no cell is left that was
	if _, e := s.Take(request(15)); e != api.ErrFull {
		t.Error(e)
	}
}

func TestStaleHandles(t *testing.T) {
	s := newSlab(t, 3)
	take(t, s, request(1), 1<<32)
	take(t, s, request(2), 1<<32+1)
	free(t, s, 1<<32)
	for _, h := range []slab.Handle{
		0, 1, 2, 3, 1 << 32, 1<<32 + 2, 1<<32 + 3, 2 << 32, 2<<32 + 1, 1<<33 + 1, 0<<32 + 1,
		1<<32 + 1<<31 + 1, 1<<63 + 1<<32 + 1, math.MaxUint32, math.MaxUint64, 1<<32 + 1024, 1<<32 + math.MaxUint32,
	} {
		if q, e := s.Get(h); q != (slab.Req{}) || e != api.ErrStale {
			t.Errorf("Get of %x: %v, %d", uint64(h), q, e)
		}
		if e := s.Free(h); e != api.ErrStale {
			t.Errorf("Free of %x: %d", uint64(h), e)
		}
	}
	if q, e := s.Get(1<<32 + 1); q != request(2) || e != api.OK || s.Len() != 1 {
		t.Error(q, e, s.Len())
	}
	take(t, s, request(3), 2<<32) // the stale Frees have freed nothing
	take(t, s, request(4), 1<<32+2)
	if _, e := s.Get(1 << 32); e != api.ErrStale {
		t.Error("the cell's handle of before:", e)
	}
}

func TestFullTakeChangesNothing(t *testing.T) {
	s := newSlab(t, 1)
	take(t, s, request(1), 1<<32)
	for range 3 {
		if h, e := s.Take(request(2)); h != 0 || e != api.ErrFull {
			t.Fatal(h, e)
		}
	}
	if q, e := s.Get(1 << 32); q != request(1) || e != api.OK {
		t.Fatal(q, e)
	}
	free(t, s, 1<<32)
	take(t, s, request(3), 2<<32)
}

func TestCell(t *testing.T) {
	for h, want := range map[slab.Handle]int{
		0: 0, 7: 7, 1 << 32: 0, 5<<32 + 1023: 1023, 1<<32 - 1: 1<<32 - 1, math.MaxUint64: 1<<32 - 1, 1 << 63: 0, 1<<31 + 1<<32: 1 << 31,
	} {
		if h.Cell() != want {
			t.Errorf("the cell of %x is %d", uint64(h), h.Cell())
		}
	}
}

// model has each cell's number of takes, and when it was freed.
type model struct {
	took, freed []int
	held        map[slab.Handle]slab.Req
	time        int
}

func (m *model) free() int {
	best := -1
	for c := range m.took {
		if _, ok := m.held[m.handle(c)]; ok && m.took[c] > 0 {
			continue
		}
		if best < 0 || m.freed[c] > m.freed[best] {
			best = c
		}
	}
	return best
}

func (m *model) handle(c int) slab.Handle { return slab.Handle(m.took[c])<<32 + slab.Handle(c) }

func TestAgainstModel(t *testing.T) {
	r := rand.New(rand.NewSource(5))
	for round := range 60 {
		room := 1 + r.Intn(9)
		s := newSlab(t, room)
		m := &model{took: make([]int, room), freed: make([]int, room), held: map[slab.Handle]slab.Req{}}
		var given []slab.Handle
		for step := range 300 {
			m.time++
			if r.Intn(2+round%3) > 0 {
				q := request(uint64(step))
				h, e := s.Take(q)
				c := m.free()
				if c < 0 {
					if h != 0 || e != api.ErrFull {
						t.Fatal("full", h, e)
					}
					continue
				}
				m.took[c]++
				m.held[m.handle(c)] = q
				if h != m.handle(c) || e != api.OK {
					t.Fatalf("Take is %x, %d, not %x", uint64(h), e, uint64(m.handle(c)))
				}
				given = append(given, h)
			} else if len(given) > 0 {
				h := given[r.Intn(len(given))]
				_, held := m.held[h]
				if e := s.Free(h); (e == api.OK) != held || !held && e != api.ErrStale {
					t.Fatalf("Free of %x: %d", uint64(h), e)
				}
				if held {
					delete(m.held, h)
					m.freed[h.Cell()] = m.time
				}
			}
			if s.Len() != len(m.held) {
				t.Fatal("length", s.Len(), len(m.held))
			}
		}
		for _, h := range given {
			q, e := s.Get(h)
			if want, held := m.held[h]; q != want || (e == api.OK) != held || !held && e != api.ErrStale {
				t.Fatalf("Get of %x: %v, %d", uint64(h), q, e)
			}
		}
	}
}

// The rules of the document

func TestNilSlab(t *testing.T) {
	var s *slab.Slab
	if h, e := s.Take(request(1)); h != 0 || e != api.ErrNone {
		t.Error(h, e)
	}
	if q, e := s.Get(1 << 32); q != (slab.Req{}) || e != api.ErrNone {
		t.Error(q, e)
	}
	if e := s.Free(1 << 32); e != api.ErrNone {
		t.Error(e)
	}
	if s.Len() != 0 || s.Room() != 0 {
		t.Error(s.Len(), s.Room())
	}
}

func TestSlabsAreIndependent(t *testing.T) {
	a, b := newSlab(t, 2), newSlab(t, 2)
	for range 2 { // P2: the same calls have the same answers, whatever became of another slab
		take(t, a, request(1), 1<<32)
		q, _ := a.Get(1 << 32)
		q.Ticket = 99
		if again, _ := a.Get(1 << 32); again != request(1) || b.Len() != 0 {
			t.Fatal(again, b.Len())
		}
		a = newSlab(t, 2)
	}
}
