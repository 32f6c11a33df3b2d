package tierq_test

import (
	"math"
	"math/rand"
	"slices"
	"testing"

	"overfall/api"
	"overfall/slab"
	"overfall/tierq"
)

func newQueue(t *testing.T, tiers, room int) *tierq.Queue {
	t.Helper()
	q, e := tierq.New(tiers, room)
	if e != api.OK || q == nil {
		t.Fatalf("New(%d, %d): %d", tiers, room, e)
	}
	return q
}

// request has something of its own in each field.
func request(tier int, deadline int64, ticket uint64) slab.Req {
	return slab.Req{Ticket: ticket, Tier: tier, Cohort: int(ticket%90) + 1, Deadline: deadline, Arrived: -int64(ticket) - 7}
}

func put(t *testing.T, q *tierq.Queue, r slab.Req) slab.Handle {
	t.Helper()
	h, e := q.Put(r)
	if e != api.OK {
		t.Fatalf("Put(%v): %d", r, e)
	}
	return h
}

func take(t *testing.T, q *tierq.Queue, h slab.Handle) {
	t.Helper()
	if _, e := q.Take(h); e != api.OK {
		t.Fatalf("Take(%x): %d", uint64(h), e)
	}
}

// held is a request as the tests know it; a queue should hold a list of them, in the order in which they were put.
type held struct {
	h slab.Handle
	r slab.Req
}

func handles(l []held) []slab.Handle {
	var hs []slab.Handle
	for _, k := range l {
		hs = append(hs, k.h)
	}
	return hs
}

func ofTier(l []held, tier int) []held {
	var row []held
	for _, k := range l {
		if k.r.Tier == tier {
			row = append(row, k)
		}
	}
	return row
}

// earlier orders by the words of P9.2: by Deadline, then by Ticket, then by cell.
func earlier(a, b held) bool {
	if a.r.Deadline != b.r.Deadline {
		return a.r.Deadline < b.r.Deadline
	}
	if a.r.Ticket != b.r.Ticket {
		return a.r.Ticket < b.r.Ticket
	}
	return a.h.Cell() < b.h.Cell()
}

func due(l []held, now int64) []slab.Handle {
	l = slices.DeleteFunc(slices.Clone(l), func(k held) bool { return k.r.Deadline > now })
	for n := range l {
		for k := n; k > 0 && earlier(l[k], l[k-1]); k-- {
			l[k], l[k-1] = l[k-1], l[k]
		}
	}
	return handles(l)
}

// same holds a queue's every answer against the requests that it should have.
func same(t *testing.T, q *tierq.Queue, l []held) {
	t.Helper()
	if q.Len() != len(l) {
		t.Fatalf("%d requests, not %d", q.Len(), len(l))
	}
	for _, k := range l {
		if r, e := q.Get(k.h); r != k.r || e != api.OK {
			t.Fatalf("Get(%x) is %v, %d, not %v", uint64(k.h), r, e, k.r)
		}
	}
	var all []held
	first, last := 0, 0
	for tier := -1; tier <= api.MaxTiers; tier++ {
		row := ofTier(l, tier)
		sameEnds(t, q, tier, row)
		if len(row) > 0 && len(all) == 0 {
			first = tier
		}
		if len(row) > 0 {
			last = tier
		}
		all = append(all, row...)
	}
	if tier, ok := q.First(); tier != first || ok != (len(l) > 0) {
		t.Fatalf("First is %d, %v, not %d", tier, ok, first)
	}
	if tier, ok := q.Last(); tier != last || ok != (len(l) > 0) {
		t.Fatalf("Last is %d, %v, not %d", tier, ok, last)
	}
	if got := collect(q); !slices.Equal(got, all) {
		t.Fatalf("All is %v, not %v", got, all)
	}
	for _, k := range l {
		for _, now := range []int64{k.r.Deadline, k.r.Deadline - 1, math.MaxInt64} {
			if got, want := q.Due(now), due(l, now); !slices.Equal(got, want) {
				t.Fatalf("Due(%d) is %x, not %x", now, got, want)
			}
		}
	}
	if len(l) == 0 && len(q.Due(math.MaxInt64)) != 0 {
		t.Fatal("due of none:", q.Due(math.MaxInt64))
	}
}

func sameEnds(t *testing.T, q *tierq.Queue, tier int, row []held) {
	t.Helper()
	var first, last slab.Handle
	if len(row) > 0 {
		first, last = row[0].h, row[len(row)-1].h
	}
	if q.Count(tier) != len(row) {
		t.Fatalf("tier %d has %d, not %d", tier, q.Count(tier), len(row))
	}
	if h, ok := q.Head(tier); h != first || ok != (len(row) > 0) {
		t.Fatalf("the head of tier %d is %x, %v, not %x", tier, uint64(h), ok, uint64(first))
	}
	if h, ok := q.Tail(tier); h != last || ok != (len(row) > 0) {
		t.Fatalf("the tail of tier %d is %x, %v, not %x", tier, uint64(h), ok, uint64(last))
	}
}

func collect(q *tierq.Queue) []held {
	var l []held
	for h, r := range q.All() {
		l = append(l, held{h, r})
	}
	return l
}

// fill puts requests of these tiers, with tickets from 1 on, and deadlines the other way round.
func fill(t *testing.T, q *tierq.Queue, tiers ...int) []held {
	t.Helper()
	var l []held
	for n, tier := range tiers {
		r := request(tier, int64(100-n), uint64(n+1))
		l = append(l, held{put(t, q, r), r})
	}
	return l
}

// P9.1

func TestNewEdges(t *testing.T) {
	for _, c := range [][2]int{
		{0, 1}, {-1, 1}, {api.MaxTiers + 1, 1}, {1, 0}, {1, -1}, {1, api.MaxRoom + 1}, {0, 0}, {math.MinInt, 5}, {5, math.MaxInt}, {math.MaxInt, math.MinInt},
	} {
		if q, e := tierq.New(c[0], c[1]); q != nil || e != api.ErrArg {
			t.Errorf("New(%v): %v, %d", c, q, e)
		}
	}
	for _, c := range [][2]int{{1, 1}, {api.MaxTiers, 1}, {1, api.MaxRoom}, {api.MaxTiers, api.MaxRoom}} {
		q := newQueue(t, c[0], c[1])
		same(t, q, nil)
		for i := range c[1] {
			if h := put(t, q, request(i%c[0], 5, uint64(i))); h != slab.Handle(1<<32+i) {
				t.Fatalf("handle %x of request %d", uint64(h), i)
			}
		}
		if h, e := q.Put(request(c[0]-1, 5, 0)); h != 0 || e != api.ErrFull || q.Len() != c[1] {
			t.Errorf("beyond the room of %v: %x, %d", c, uint64(h), e)
		}
		if h, e := q.Put(request(c[0], 5, 0)); h != 0 || e != api.ErrArg {
			t.Errorf("beyond the tiers of %v: %x, %d", c, uint64(h), e)
		}
	}
}

func TestPutErrors(t *testing.T) {
	q := newQueue(t, 3, 3)
	wrong := []int{-1, 3, 4, api.MaxTiers, math.MinInt, math.MaxInt, 1 << 32}
	check := func(tier int, want api.Errno, l []held) {
		t.Helper()
		if h, e := q.Put(request(tier, 5, 9)); h != 0 || e != want {
			t.Errorf("Put of tier %d: %x, %d, not %d", tier, uint64(h), e, want)
		}
		same(t, q, l)
	}
	for _, tier := range wrong {
		check(tier, api.ErrArg, nil)
	}
	l := fill(t, q, 2, 0, 2)
	for tier := range 3 { // full is full for each tier, also for one that has none
		check(tier, api.ErrFull, l)
	}
	for _, tier := range wrong {
		check(tier, api.ErrArg, l)
	}
	take(t, q, l[1].h)
	l = append(slices.Delete(l, 1, 2), fill(t, q, 1)...)
	check(0, api.ErrFull, l)
}

func TestPutKeepsEachField(t *testing.T) {
	q := newQueue(t, api.MaxTiers, 4)
	var l []held
	for _, r := range []slab.Req{
		{},
		{Ticket: math.MaxUint64, Tier: 7, Cohort: math.MaxInt, Deadline: math.MaxInt64, Arrived: math.MinInt64},
		{Ticket: 1 << 63, Tier: 3, Cohort: math.MinInt, Deadline: math.MinInt64, Arrived: math.MaxInt64},
		{Ticket: 1 << 63, Tier: 3, Cohort: -1, Deadline: math.MinInt64, Arrived: -1},
	} {
		l = append(l, held{put(t, q, r), r})
		same(t, q, l)
	}
	for len(l) > 0 {
		if r, e := q.Take(l[0].h); r != l[0].r || e != api.OK {
			t.Fatalf("%v, %d, not %v", r, e, l[0].r)
		}
		l = l[1:]
		same(t, q, l)
	}
}

func TestHandlesAreThoseOfASlab(t *testing.T) {
	q := newQueue(t, 2, 3)
	l := fill(t, q, 1, 0, 1)
	take(t, q, l[0].h)
	take(t, q, l[2].h)
	for n, want := range []slab.Handle{0x200000002, 0x200000000} { // the cell that was freed last comes first, whatever its tier was
		if h := put(t, q, request(0, 1, 9)); h != want {
			t.Errorf("%d: %x, not %x", n, uint64(h), uint64(want))
		}
	}
}

func TestStale(t *testing.T) {
	q := newQueue(t, 2, 3)
	l := fill(t, q, 1, 0)
	gone, stays := l[0], l[1]
	take(t, q, gone.h)
	check := func(h slab.Handle, l []held) {
		t.Helper()
		if r, e := q.Get(h); r != (slab.Req{}) || e != api.ErrStale {
			t.Errorf("Get(%x): %v, %d", uint64(h), r, e)
		}
		if r, e := q.Take(h); r != (slab.Req{}) || e != api.ErrStale {
			t.Errorf("Take(%x): %v, %d", uint64(h), r, e)
		}
		same(t, q, l)
	}
	wrong := []slab.Handle{gone.h, 0, 1, 2, 3, 1<<32 + 2, 1<<32 + 3, 2<<32 + 1, 3 << 32, stays.h + 1, math.MaxUint64, 1<<32 - 1, 1<<32 + api.MaxRoom}
	for _, h := range wrong {
		check(h, []held{stays})
	}
	r := request(0, 50, 7)
	again := held{put(t, q, r), r}
	if again.h != 2<<32 {
		t.Fatalf("%x", uint64(again.h))
	}
	for _, h := range wrong { // the old handle does not reach the new request in its cell
		check(h, []held{stays, again})
	}
}

func TestGetAndTake(t *testing.T) {
	q := newQueue(t, 2, 3)
	l := fill(t, q, 1, 0, 1)
	for range 2 { // Get removes nothing
		for _, k := range l {
			if r, e := q.Get(k.h); r != k.r || e != api.OK {
				t.Error(r, e)
			}
		}
	}
	if r, e := q.Take(l[2].h); r != l[2].r || e != api.OK {
		t.Error(r, e)
	}
	same(t, q, l[:2])
}

func TestTakeFromEachPlace(t *testing.T) {
	tiers := []int{1, 0, 1, 2, 1, 1}
	for gone := range tiers {
		q := newQueue(t, 3, 6)
		l := fill(t, q, tiers...)
		take(t, q, l[gone].h)
		left := slices.Delete(slices.Clone(l), gone, gone+1)
		same(t, q, left)
		r := request(tiers[gone], 3, 77) // what is put again comes last
		same(t, q, append(left, held{put(t, q, r), r}))
	}
}

// P9.2

func TestExample(t *testing.T) {
	q := newQueue(t, 2, 4)
	put(t, q, slab.Req{Tier: 1})
	put(t, q, slab.Req{Tier: 0})
	first, some := q.First()
	last, other := q.Last()
	if first != 0 || !some || last != 1 || !other {
		t.Error(first, some, last, other)
	}
}

func TestFirstAndLast(t *testing.T) {
	for set := range 1 << 4 { // each set of tiers that have a request
		q := newQueue(t, 4, 8)
		var l []held
		for tier := range 4 {
			if set>>tier&1 == 1 {
				l = append(l, fill(t, q, tier, tier)...)
			}
		}
		same(t, q, l)
		for len(l) > 0 {
			take(t, q, l[0].h)
			l = l[1:]
			same(t, q, l)
		}
	}
}

func TestTiersThatDoNotExist(t *testing.T) {
	q := newQueue(t, 2, 4)
	fill(t, q, 0, 1, 1)
	for _, tier := range []int{-1, 2, api.MaxTiers, math.MinInt, math.MaxInt} {
		sameEnds(t, q, tier, nil)
	}
}

func TestDueEdges(t *testing.T) {
	q := newQueue(t, 3, 8)
	var hs []slab.Handle
	for _, r := range []slab.Req{
		{Tier: 0, Deadline: 6, Ticket: 4},
		{Tier: 2, Deadline: 6, Ticket: 3},
		{Tier: 1, Deadline: 9, Ticket: 1},
		{Tier: 2, Deadline: math.MinInt64, Ticket: 9},
		{Tier: 0, Deadline: math.MaxInt64, Ticket: 0},
		{Tier: 0, Deadline: 6, Ticket: 1 << 63},
		{Tier: 1, Deadline: 6, Ticket: 3},
		{Tier: 0, Deadline: -1, Ticket: 8},
	} {
		hs = append(hs, put(t, q, r))
	}
	for _, c := range []struct {
		now  int64
		want []int
	}{
		{math.MinInt64, []int{3}}, {-2, []int{3}}, {-1, []int{3, 7}}, {5, []int{3, 7}}, {6, []int{3, 7, 1, 6, 0, 5}}, {8, []int{3, 7, 1, 6, 0, 5}},
		{9, []int{3, 7, 1, 6, 0, 5, 2}}, {math.MaxInt64 - 1, []int{3, 7, 1, 6, 0, 5, 2}}, {math.MaxInt64, []int{3, 7, 1, 6, 0, 5, 2, 4}},
	} {
		var want []slab.Handle
		for _, n := range c.want {
			want = append(want, hs[n])
		}
		for range 2 { // it removes nothing
			if got := q.Due(c.now); !slices.Equal(got, want) {
				t.Errorf("Due(%d) is %x, not %x", c.now, got, want)
			}
		}
	}
	if q.Len() != 8 {
		t.Error(q.Len())
	}
	take(t, q, hs[3])
	if got := q.Due(-2); len(got) != 0 {
		t.Errorf("nothing is due: %x", got)
	}
}

func TestDueByCellWhereTicketsAreEqual(t *testing.T) {
	q := newQueue(t, 2, 3)
	l := fill(t, q, 0, 0, 0)
	for _, n := range []int{1, 0, 2} {
		take(t, q, l[n].h)
	}
	// The cells come in the order 2, 0, 1, and cell 1 was taken most often.
	alike := request(1, 5, 5)
	a, b, c := put(t, q, alike), put(t, q, alike), put(t, q, alike)
	take(t, q, c)
	c = put(t, q, alike)
	if a.Cell() != 2 || b.Cell() != 0 || c != 3<<32+1 {
		t.Fatalf("%x %x %x", uint64(a), uint64(b), uint64(c))
	}
	if got := q.Due(5); !slices.Equal(got, []slab.Handle{b, c, a}) {
		t.Errorf("%x", got)
	}
}

func TestAllThatIsBrokenOff(t *testing.T) {
	q := newQueue(t, 3, 6)
	l := fill(t, q, 2, 0, 2, 0)
	order := handles([]held{l[1], l[3], l[0], l[2]})
	for n := range order { // also at the last of a tier, and of all
		var got []slab.Handle
		q.All()(func(h slab.Handle, r slab.Req) bool {
			got = append(got, h)
			return len(got) <= n
		})
		if !slices.Equal(got, order[:n+1]) {
			t.Errorf("broken off at %d: %x", n, got)
		}
	}
	for range q.All() { // one iteration within another one
		if got := collect(q); !slices.Equal(handles(got), order) {
			t.Error(got)
		}
	}
	same(t, q, l)
}

func TestAllBeginsWhenItIsUsed(t *testing.T) {
	q := newQueue(t, 2, 4)
	all := q.All()
	l := fill(t, q, 0, 1, 0)
	for range 2 {
		n := 0
		for h, r := range all {
			if want := []held{l[0], l[2], l[1]}[n]; h != want.h || r != want.r {
				t.Fatal(n, h, r)
			}
			n++
		}
		if n != 3 {
			t.Fatal(n)
		}
	}
}

// What All yields while the queue changes is not promised, but it ends and leaves the queue as it should be.
func TestAllWhileTheQueueChanges(t *testing.T) {
	q := newQueue(t, 3, 8)
	fill(t, q, 0, 0, 1, 1, 2)
	for h := range q.All() {
		take(t, q, h)
	}
	for _, k := range collect(q) {
		take(t, q, k.h)
	}
	same(t, q, nil)
	l := fill(t, q, 0, 0, 1, 1, 2)
	for range q.All() {
		for _, k := range l {
			q.Take(k.h) // all at the first one; they are stale at those that may follow
		}
	}
	same(t, q, nil)
	fill(t, q, 1)
	for range q.All() {
		q.Put(request(1, 1, 1)) // until it is full
	}
	if q.Len() > 8 {
		t.Error(q.Len())
	}
}

func TestAgainstModel(t *testing.T) {
	r := rand.New(rand.NewSource(9))
	deadlines := []int64{math.MinInt64, -1, 0, 1, 2, 3, math.MaxInt64}
	tickets := []uint64{0, 1, 2, 3, math.MaxUint64}
	for round := range 60 {
		tiers, room := 1+r.Intn(api.MaxTiers), 1+r.Intn(12)
		q := newQueue(t, tiers, room)
		var l []held
		for range 120 {
			if r.Intn(2+round%3) > 0 {
				req := request(r.Intn(tiers), deadlines[r.Intn(len(deadlines))], tickets[r.Intn(len(tickets))])
				h, e := q.Put(req)
				if (e == api.OK) != (len(l) < room) || e != api.OK && (e != api.ErrFull || h != 0) {
					t.Fatal("put", e)
				}
				if e == api.OK {
					l = append(l, held{h, req})
				}
			} else if len(l) > 0 {
				at := r.Intn(len(l))
				if got, e := q.Take(l[at].h); got != l[at].r || e != api.OK {
					t.Fatal("take", got, e)
				}
				l = slices.Delete(l, at, at+1)
			}
			same(t, q, l)
		}
	}
}

// The rules of the document

func TestNilQueue(t *testing.T) {
	var q *tierq.Queue
	for _, tier := range []int{-1, 0, 1} {
		if h, e := q.Put(request(tier, 1, 1)); h != 0 || e != api.ErrNone {
			t.Error(h, e)
		}
	}
	for _, h := range []slab.Handle{0, 1 << 32} {
		if r, e := q.Get(h); r != (slab.Req{}) || e != api.ErrNone {
			t.Error(r, e)
		}
		if r, e := q.Take(h); r != (slab.Req{}) || e != api.ErrNone {
			t.Error(r, e)
		}
	}
	same(t, q, nil)
	if q.All() == nil {
		t.Error("a nil iterator")
	}
}

func TestDueIsNewMemory(t *testing.T) {
	q := newQueue(t, 1, 6)
	l := fill(t, q, 0, 0, 0, 0, 0)
	want := due(l, 98)
	first := q.Due(98)
	spare := first[:cap(first)]
	for n := range spare {
		spare[n] = 99
	}
	again := q.Due(98)
	for n := range spare {
		spare[n] = 98
	}
	if !slices.Equal(again, want) {
		t.Errorf("%x, not %x", again, want)
	}
	same(t, q, l)
	take(t, q, l[4].h)
	put(t, q, request(0, 1, 1))
	if !slices.Equal(again, want) {
		t.Errorf("changed afterwards: %x", again)
	}
}

func TestQueuesAreIndependent(t *testing.T) {
	for range 2 { // P2: the same calls have the same answers, whatever became of another queue
		q, other := newQueue(t, 2, 3), newQueue(t, 2, 3)
		o := fill(t, other, 1, 1, 0)
		l := fill(t, q, 0, 1)
		take(t, other, o[0].h)
		r, _ := q.Get(l[0].h)
		r.Tier, r.Ticket = 1, 99
		same(t, q, l)
		same(t, other, o[1:])
	}
}
