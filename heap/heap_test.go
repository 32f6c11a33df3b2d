package heap_test

import (
	"math"
	"math/rand"
	"slices"
	"testing"

	"overfall/api"
	"overfall/heap"
)

func newHeap(t *testing.T, room int) *heap.Heap {
	t.Helper()
	h, e := heap.New(room)
	if e != api.OK || h == nil {
		t.Fatalf("New(%d): %d", room, e)
	}
	return h
}

func put(t *testing.T, h *heap.Heap, i int, key int64, tie uint64) {
	t.Helper()
	if e := h.Put(i, key, tie); e != api.OK {
		t.Fatalf("Put(%d, %d, %d): %d", i, key, tie, e)
	}
}

func remove(t *testing.T, h *heap.Heap, i int) {
	t.Helper()
	if e := h.Remove(i); e != api.OK {
		t.Fatalf("Remove(%d): %d", i, e)
	}
}

// member is a member as the tests know it; a heap should hold a list of them.
type member struct {
	i   int
	key int64
	tie uint64
}

// sorted orders by the words of P7.2: by key, then by tie-breaker, then by number.
func sorted(l []member) []member {
	l = slices.Clone(l)
	for n := range l {
		for k := n; k > 0 && earlier(l[k], l[k-1]); k-- {
			l[k], l[k-1] = l[k-1], l[k]
		}
	}
	return l
}

func earlier(a, b member) bool {
	if a.key != b.key {
		return a.key < b.key
	}
	if a.tie != b.tie {
		return a.tie < b.tie
	}
	return a.i < b.i
}

func due(l []member, key int64) []int {
	var want []int
	for _, m := range sorted(l) {
		if m.key <= key {
			want = append(want, m.i)
		}
	}
	return want
}

// same holds a heap's every answer against the members that it should have.
func same(t *testing.T, h *heap.Heap, room int, l []member) {
	t.Helper()
	if h.Len() != len(l) {
		t.Fatalf("%d members, not %d", h.Len(), len(l))
	}
	want := sorted(l)
	first, ok := h.Min()
	if ok != (len(l) > 0) || !ok && first != 0 || ok && first != want[0].i {
		t.Fatalf("Min is %d, %v of %v", first, ok, want)
	}
	keys := map[int]int64{}
	for _, m := range l {
		keys[m.i] = m.key
	}
	for i := -2; i < room+2; i++ {
		key, ok := h.Key(i)
		if want, is := keys[i]; ok != is || key != want {
			t.Fatalf("Key(%d) is %d, %v, not %d, %v", i, key, ok, want, is)
		}
	}
	for _, key := range []int64{math.MinInt64, math.MinInt64 + 1, -1, 0, 1, 2, 3, 4, math.MaxInt64 - 1, math.MaxInt64} {
		if got := h.Due(key); !slices.Equal(got, due(l, key)) {
			t.Fatalf("Due(%d) is %v, not %v", key, got, due(l, key))
		}
	}
}

func all(h *heap.Heap) []int { return h.Due(math.MaxInt64) }

// P7.1

func TestNewEdges(t *testing.T) {
	for _, room := range []int{math.MinInt, -1, 0, api.MaxRoom + 1, math.MaxInt} {
		if h, e := heap.New(room); h != nil || e != api.ErrArg {
			t.Errorf("New(%d): %v, %d", room, h, e)
		}
	}
	for _, room := range []int{1, 2, 3, api.MaxRoom} {
		h := newHeap(t, room)
		same(t, h, room, nil)
		var l []member
		for i := range room {
			m := member{i, int64(i * 7 % 5), uint64(i % 3)}
			put(t, h, m.i, m.key, m.tie)
			l = append(l, m)
		}
		same(t, h, room, l)
		if e := h.Put(room, 0, 0); e != api.ErrArg {
			t.Errorf("member %d of %d: %d", room, room, e)
		}
		same(t, h, room, l)
	}
}

func TestPutAndRemoveErrors(t *testing.T) {
	h := newHeap(t, 3)
	put(t, h, 2, 4, 1)
	put(t, h, 0, 3, 9)
	l := []member{{2, 4, 1}, {0, 3, 9}}
	for i, want := range map[int]api.Errno{
		-1: api.ErrArg, 3: api.ErrArg, api.MaxRoom: api.ErrArg, math.MinInt: api.ErrArg, math.MaxInt: api.ErrArg, 0: api.ErrBusy, 2: api.ErrBusy,
	} {
		if e := h.Put(i, -5, 0); e != want {
			t.Errorf("Put(%d): %d, not %d", i, e, want)
		}
		same(t, h, 3, l) // the one that is there keeps its key
	}
	for i, want := range map[int]api.Errno{
		-1: api.ErrArg, 3: api.ErrArg, api.MaxRoom: api.ErrArg, math.MinInt: api.ErrArg, math.MaxInt: api.ErrArg, 1: api.ErrNone,
	} {
		if e := h.Remove(i); e != want {
			t.Errorf("Remove(%d): %d, not %d", i, e, want)
		}
		same(t, h, 3, l)
	}
	remove(t, h, 2)
	if e := h.Remove(2); e != api.ErrNone {
		t.Error("removed twice:", e)
	}
	same(t, h, 3, l[1:])
	put(t, h, 2, 1, 1)
	same(t, h, 3, []member{{0, 3, 9}, {2, 1, 1}})
	remove(t, h, 0)
	remove(t, h, 2)
	same(t, h, 3, nil)
}

func TestKeyOfWhatIsNotThere(t *testing.T) {
	h := newHeap(t, 2)
	put(t, h, 1, 8, 0)
	for _, i := range []int{math.MinInt, -1, 0, 2, api.MaxRoom, math.MaxInt} {
		if key, ok := h.Key(i); key != 0 || ok {
			t.Errorf("Key(%d) is %d, %v", i, key, ok)
		}
	}
	if key, ok := h.Key(1); key != 8 || !ok {
		t.Error(key, ok)
	}
}

func TestRemoveEachOfEachOrder(t *testing.T) {
	order := []int{0, 1, 2, 3, 4, 5, 6}
	permute(order, 0, func() {
		for gone := range order {
			h := newHeap(t, len(order))
			for i, key := range order {
				put(t, h, i, int64(key), 0)
			}
			remove(t, h, slices.Index(order, gone))
			for key := range order {
				if key == gone {
					continue
				}
				i, ok := h.Min()
				if !ok || order[i] != key {
					t.Fatalf("%v without %d: %d comes before %d", order, gone, order[i], key)
				}
				remove(t, h, i)
			}
			if i, ok := h.Min(); i != 0 || ok || h.Len() != 0 {
				t.Fatalf("%v without %d: %d is left", order, gone, i)
			}
		}
	})
}

func permute(l []int, from int, do func()) {
	if from == len(l) {
		do()
		return
	}
	for n := from; n < len(l); n++ {
		l[from], l[n] = l[n], l[from]
		permute(l, from+1, do)
		l[from], l[n] = l[n], l[from]
	}
}

// P7.2

func TestExample(t *testing.T) {
	h := newHeap(t, 3)
	put(t, h, 0, 5, 1)
	put(t, h, 1, 5, 0)
	put(t, h, 2, 9, 0)
	if i, ok := h.Min(); i != 1 || !ok {
		t.Error(i, ok)
	}
	if got := h.Due(5); !slices.Equal(got, []int{1, 0}) {
		t.Error(got)
	}
	same(t, h, 3, []member{{0, 5, 1}, {1, 5, 0}, {2, 9, 0}})
}

func TestOrder(t *testing.T) {
	for _, want := range [][]member{
		{{3, 1, 9}, {2, 2, 8}, {1, 3, 7}, {0, 4, 6}},
		{{3, 5, 1}, {2, 5, 2}, {1, 5, 3}, {0, 5, 4}},
		{{0, 5, 5}, {1, 5, 5}, {2, 5, 5}, {3, 5, 5}},
		{{3, math.MinInt64, 2}, {0, -1, 2}, {2, 0, 2}, {1, math.MaxInt64, 2}},
		{{2, 7, 0}, {1, 7, 1<<63 - 1}, {3, 7, 1 << 63}, {0, 7, math.MaxUint64}},
		{{1, math.MinInt64, math.MaxUint64}, {0, math.MinInt64 + 1, 0}, {3, math.MaxInt64 - 1, math.MaxUint64}, {2, math.MaxInt64, 0}},
	} {
		order := []int{0, 1, 2, 3}
		permute(order, 0, func() {
			h := newHeap(t, 4)
			for _, n := range order {
				put(t, h, want[n].i, want[n].key, want[n].tie)
			}
			for n := range want {
				var left []int
				for _, m := range want[n:] {
					left = append(left, m.i)
				}
				if got := all(h); !slices.Equal(got, left) {
					t.Fatalf("%v, put in the order %v, is %v", want[n:], order, got)
				}
				if i, ok := h.Min(); i != want[n].i || !ok {
					t.Fatalf("the first of %v is %d", want[n:], i)
				}
				remove(t, h, want[n].i)
			}
		})
	}
}

func TestDueEdges(t *testing.T) {
	h := newHeap(t, 5)
	if got := all(h); len(got) != 0 {
		t.Error("of none:", got)
	}
	put(t, h, 4, math.MinInt64, 3)
	put(t, h, 2, 6, 1)
	put(t, h, 0, 6, 0)
	put(t, h, 3, math.MaxInt64, 0)
	for _, c := range []struct {
		key  int64
		want []int
	}{
		{math.MinInt64, []int{4}}, {5, []int{4}}, {6, []int{4, 0, 2}}, {7, []int{4, 0, 2}}, {math.MaxInt64 - 1, []int{4, 0, 2}}, {math.MaxInt64, []int{4, 0, 2, 3}},
	} {
		for range 2 { // it removes nothing
			if got := h.Due(c.key); !slices.Equal(got, c.want) {
				t.Errorf("Due(%d) is %v, not %v", c.key, got, c.want)
			}
		}
	}
	remove(t, h, 4)
	if got := h.Due(5); len(got) != 0 {
		t.Error("nothing is due:", got)
	}
}

func TestAgainstModel(t *testing.T) {
	r := rand.New(rand.NewSource(7))
	keys := []int64{math.MinInt64, -1, 0, 1, 2, 3, 4, math.MaxInt64}
	ties := []uint64{0, 1, 2, math.MaxUint64}
	for round := range 80 {
		room := 1 + r.Intn(20)
		h := newHeap(t, room)
		var l []member
		for range 200 {
			m := member{r.Intn(room), keys[r.Intn(len(keys))], ties[r.Intn(len(ties))]}
			at := slices.IndexFunc(l, func(k member) bool { return k.i == m.i })
			if r.Intn(2+round%3) > 0 {
				e := h.Put(m.i, m.key, m.tie)
				if (e == api.OK) != (at < 0) || e != api.OK && e != api.ErrBusy {
					t.Fatal("put", e)
				}
				if at < 0 {
					l = append(l, m)
				}
			} else {
				e := h.Remove(m.i)
				if (e == api.OK) != (at >= 0) || e != api.OK && e != api.ErrNone {
					t.Fatal("remove", e)
				}
				if at >= 0 {
					l = slices.Delete(l, at, at+1)
				}
			}
			same(t, h, room, l)
		}
	}
}

// The rules of the document

func TestNilHeap(t *testing.T) {
	var h *heap.Heap
	for _, i := range []int{-1, 0, 1} {
		if e := h.Put(i, 0, 0); e != api.ErrNone {
			t.Error(e)
		}
		if e := h.Remove(i); e != api.ErrNone {
			t.Error(e)
		}
	}
	same(t, h, 3, nil)
}

func TestDueIsNewMemory(t *testing.T) {
	h := newHeap(t, 8)
	for i := range 6 {
		put(t, h, i, int64(i), 0)
	}
	first := h.Due(3)
	spare := first[:cap(first)]
	for n := range spare {
		spare[n] = 99
	}
	again := h.Due(3)
	for n := range spare {
		spare[n] = 98
	}
	if want := []int{0, 1, 2, 3}; !slices.Equal(again, want) || !slices.Equal(h.Due(3), want) {
		t.Error(again, h.Due(3))
	}
	put(t, h, 7, 0, 9)
	if want := []int{0, 1, 2, 3}; !slices.Equal(again, want) {
		t.Error("changed afterwards:", again)
	}
}

func TestSameAnswerAgain(t *testing.T) {
	for range 2 {
		h, other := newHeap(t, 4), newHeap(t, 4)
		put(t, other, 3, 1, 1)
		put(t, h, 3, 2, 0)
		put(t, h, 1, 2, 0)
		remove(t, other, 3)
		same(t, h, 4, []member{{3, 2, 0}, {1, 2, 0}})
		same(t, other, 4, nil)
	}
}
