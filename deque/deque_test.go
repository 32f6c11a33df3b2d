package deque_test

import (
	"math"
	"math/rand"
	"slices"
	"testing"

	"overfall/api"
	"overfall/deque"
)

func newRows(t *testing.T, rows, room int) *deque.Rows {
	t.Helper()
	w, e := deque.New(rows, room)
	if e != api.OK || w == nil {
		t.Fatalf("New(%d, %d): %v", rows, room, e)
	}
	return w
}

func push(t *testing.T, w *deque.Rows, row int, members ...int) {
	t.Helper()
	for _, i := range members {
		if e := w.Push(row, i); e != api.OK {
			t.Fatalf("Push(%d, %d): %d", row, i, e)
		}
	}
}

func remove(t *testing.T, w *deque.Rows, i int) {
	t.Helper()
	if e := w.Remove(i); e != api.OK {
		t.Fatalf("Remove(%d): %d", i, e)
	}
}

// same holds a row's every answer against what it should contain.
func same(t *testing.T, w *deque.Rows, row int, want ...int) {
	t.Helper()
	turned := slices.Clone(want)
	slices.Reverse(turned)
	if got := slices.Collect(w.All(row, false)); !slices.Equal(got, want) {
		t.Fatalf("row %d from the front is %v, not %v", row, got, want)
	}
	if got := slices.Collect(w.All(row, true)); !slices.Equal(got, turned) {
		t.Fatalf("row %d from the back is %v, not %v", row, got, turned)
	}
	f, fok := w.Front(row)
	b, bok := w.Back(row)
	if w.Len(row) != len(want) || fok != (len(want) > 0) || bok != fok {
		t.Fatalf("row %d: length %d, %v, %v", row, w.Len(row), fok, bok)
	}
	if len(want) == 0 && (f != 0 || b != 0) || len(want) > 0 && (f != want[0] || b != turned[0]) {
		t.Fatalf("row %d is from %d to %d", row, f, b)
	}
	for _, i := range want {
		if w.Where(i) != row {
			t.Fatalf("member %d is in %d", i, w.Where(i))
		}
	}
}

// P6.1

func TestNewEdges(t *testing.T) {
	for _, c := range [][2]int{
		{0, 1}, {-1, 1}, {api.MaxTiers + 1, 1}, {1, 0}, {1, -1}, {1, api.MaxRoom + 1}, {0, 0}, {math.MinInt, 5}, {5, math.MaxInt}, {math.MaxInt, math.MinInt},
	} {
		if w, e := deque.New(c[0], c[1]); w != nil || e != api.ErrArg {
			t.Errorf("New(%v): %v, %d", c, w, e)
		}
	}
	for _, c := range [][2]int{{1, 1}, {api.MaxTiers, 1}, {1, api.MaxRoom}, {api.MaxTiers, api.MaxRoom}} {
		w := newRows(t, c[0], c[1])
		for row := range c[0] {
			same(t, w, row)
		}
		for i := range c[1] {
			if w.Where(i) != -1 {
				t.Errorf("member %d is in %d at first", i, w.Where(i))
			}
			push(t, w, i%c[0], i)
		}
		if e := w.Push(0, c[1]); e != api.ErrArg {
			t.Errorf("member %d of %d: %d", c[1], c[1], e)
		}
		if e := w.Push(c[0], 0); e != api.ErrArg {
			t.Errorf("row %d of %d: %d", c[0], c[0], e)
		}
	}
}

func TestPushAndRemoveErrors(t *testing.T) {
	w := newRows(t, 2, 3)
	push(t, w, 1, 2)
	for _, c := range []struct {
		row, i int
		want   api.Errno
	}{
		{-1, 0, api.ErrArg}, {2, 0, api.ErrArg}, {0, -1, api.ErrArg}, {0, 3, api.ErrArg}, {2, 2, api.ErrArg}, {-1, 2, api.ErrArg}, {2, 3, api.ErrArg},
		{math.MinInt, 0, api.ErrArg}, {0, math.MaxInt, api.ErrArg}, {1, 2, api.ErrBusy}, {0, 2, api.ErrBusy},
	} {
		if e := w.Push(c.row, c.i); e != c.want {
			t.Errorf("Push(%d, %d): %d, not %d", c.row, c.i, e, c.want)
		}
	}
	for i, want := range map[int]api.Errno{-1: api.ErrArg, 3: api.ErrArg, math.MinInt: api.ErrArg, math.MaxInt: api.ErrArg, 0: api.ErrNone, 1: api.ErrNone} {
		if e := w.Remove(i); e != want {
			t.Errorf("Remove(%d): %d, not %d", i, e, want)
		}
	}
	same(t, w, 0)
	same(t, w, 1, 2)
	remove(t, w, 2)
	if e := w.Remove(2); e != api.ErrNone {
		t.Error("removed twice:", e)
	}
	push(t, w, 0, 2)
	same(t, w, 0, 2)
	same(t, w, 1)
}

func TestRemoveFromEachPlace(t *testing.T) {
	for gone := range 4 {
		w := newRows(t, 3, 6)
		push(t, w, 1, 3, 0, 5, 2)
		push(t, w, 2, 4)
		want := []int{3, 0, 5, 2}
		remove(t, w, want[gone])
		if w.Where(want[gone]) != -1 {
			t.Fatal(w.Where(want[gone]))
		}
		same(t, w, 1, slices.Delete(slices.Clone(want), gone, gone+1)...)
		same(t, w, 2, 4)
		push(t, w, 1, want[gone])
		same(t, w, 1, append(slices.Delete(slices.Clone(want), gone, gone+1), want[gone])...)
		same(t, w, 0)
	}
}

// P6.2

func TestExample(t *testing.T) {
	w := newRows(t, 2, 5)
	push(t, w, 1, 3, 0)
	same(t, w, 1, 3, 0)
	same(t, w, 0)
}

func TestWhatDoesNotExist(t *testing.T) {
	w := newRows(t, 2, 3)
	push(t, w, 0, 0)
	push(t, w, 1, 1, 2)
	for _, row := range []int{-1, 2, api.MaxTiers, math.MinInt, math.MaxInt} {
		same(t, w, row)
	}
	for _, i := range []int{-1, 3, math.MinInt, math.MaxInt} {
		if w.Where(i) != -1 {
			t.Errorf("member %d is in %d", i, w.Where(i))
		}
	}
}

func TestAgainstModel(t *testing.T) {
	r := rand.New(rand.NewSource(6))
	for range 60 {
		rows, room := 1+r.Intn(4), 1+r.Intn(8)
		w := newRows(t, rows, room)
		model := make([][]int, rows)
		where := make([]int, room)
		for i := range where {
			where[i] = -1
		}
		for range 200 {
			row, i := r.Intn(rows), r.Intn(room)
			if r.Intn(2) == 0 {
				e := w.Push(row, i)
				if (e == api.OK) != (where[i] < 0) || e != api.OK && e != api.ErrBusy {
					t.Fatal("push", e)
				}
				if e == api.OK {
					where[i] = row
					model[row] = append(model[row], i)
				}
			} else {
				e := w.Remove(i)
				if (e == api.OK) != (where[i] >= 0) || e != api.OK && e != api.ErrNone {
					t.Fatal("remove", e)
				}
				if e == api.OK {
					at := slices.Index(model[where[i]], i)
					model[where[i]] = slices.Delete(model[where[i]], at, at+1)
					where[i] = -1
				}
			}
			for row := range rows {
				same(t, w, row, model[row]...)
			}
			for i := range room {
				if w.Where(i) != where[i] {
					t.Fatal("where", i, w.Where(i))
				}
			}
		}
	}
}

// walk iterates a row, doing at each member what is to be done there; a walk that does not end is broken off.
func walk(w *deque.Rows, row int, back bool, do map[int]func()) []int {
	var got []int
	for i := range w.All(row, back) {
		got = append(got, i)
		if f := do[i]; f != nil {
			f()
		}
		if len(got) > 20 {
			break
		}
	}
	return got
}

func TestIterationFollowsTheState(t *testing.T) {
	for _, c := range []struct {
		name string
		back bool
		at   int
		do   func(w *deque.Rows)
		want []int
	}{
		{"push ahead", false, 2, func(w *deque.Rows) { w.Push(0, 7) }, []int{1, 2, 3, 4, 7}},
		{"push at the last", false, 4, func(w *deque.Rows) { w.Push(0, 7) }, []int{1, 2, 3, 4, 7}},
		{"push behind", true, 2, func(w *deque.Rows) { w.Push(0, 7) }, []int{4, 3, 2, 1}},
		{"remove the next", false, 2, func(w *deque.Rows) { w.Remove(3) }, []int{1, 2, 4}},
		{"remove the next from the back", true, 3, func(w *deque.Rows) { w.Remove(2) }, []int{4, 3, 1}},
		{"remove all that follow", false, 2, func(w *deque.Rows) { w.Remove(4); w.Remove(3) }, []int{1, 2}},
		{"remove one of before", false, 2, func(w *deque.Rows) { w.Remove(1) }, []int{1, 2, 3, 4}},
		{"move one of before ahead", false, 2, func(w *deque.Rows) { w.Remove(1); w.Push(0, 1) }, []int{1, 2, 3, 4, 1}},
		{"move the next to the end", false, 2, func(w *deque.Rows) { w.Remove(3); w.Push(0, 3) }, []int{1, 2, 4, 3}},
		{"remove the one itself", false, 2, func(w *deque.Rows) { w.Remove(2) }, []int{1, 2}},
		{"remove the one itself from the back", true, 3, func(w *deque.Rows) { w.Remove(3) }, []int{4, 3}},
		{"move the one itself to another row", false, 2, func(w *deque.Rows) { w.Remove(2); w.Push(1, 2) }, []int{1, 2}},
		{"push the one itself again", true, 3, func(w *deque.Rows) { w.Remove(3); w.Push(0, 3) }, []int{4, 3}},
		{"push into another row", false, 2, func(w *deque.Rows) { w.Push(1, 7) }, []int{1, 2, 3, 4}},
	} {
		w := newRows(t, 2, 9)
		push(t, w, 1, 8)
		push(t, w, 0, 1, 2, 3, 4)
		done := false
		got := walk(w, 0, c.back, map[int]func(){c.at: func() {
			if !done {
				c.do(w)
			}
			done = true
		}})
		if !slices.Equal(got, c.want) {
			t.Errorf("%s: %v, not %v", c.name, got, c.want)
		}
	}
}

func TestIterationBeginsWhenItIsUsed(t *testing.T) {
	w := newRows(t, 2, 5)
	push(t, w, 0, 1)
	all, none := w.All(0, false), w.All(1, true)
	push(t, w, 0, 2)
	push(t, w, 1, 4, 3)
	if got := slices.Collect(all); !slices.Equal(got, []int{1, 2}) {
		t.Error(got)
	}
	if got := slices.Collect(none); !slices.Equal(got, []int{3, 4}) {
		t.Error(got)
	}
	remove(t, w, 1)
	for range 2 {
		if got := slices.Collect(all); !slices.Equal(got, []int{2}) {
			t.Error("once more:", got)
		}
	}
}

func TestIterationThatIsBrokenOff(t *testing.T) {
	w := newRows(t, 1, 5)
	push(t, w, 0, 4, 1, 3)
	for _, back := range []bool{false, true} {
		calls := 0
		w.All(0, back)(func(i int) bool {
			calls++
			return calls < 2
		})
		if calls != 2 {
			t.Errorf("%d members after the break", calls)
		}
	}
	for i := range w.All(0, false) { // one iteration within another one
		if got := slices.Collect(w.All(0, true)); !slices.Equal(got, []int{3, 1, 4}) {
			t.Error(i, got)
		}
	}
}

// The rules of the document

func TestNilRows(t *testing.T) {
	var w *deque.Rows
	if e := w.Push(0, 0); e != api.ErrNone {
		t.Error(e)
	}
	if e := w.Push(-1, -1); e != api.ErrNone {
		t.Error(e)
	}
	if e := w.Remove(-1); e != api.ErrNone {
		t.Error(e)
	}
	if w.Where(0) != -1 {
		t.Error(w.Where(0))
	}
	same(t, w, 0)
	same(t, w, -1)
	if w.All(0, true) == nil {
		t.Error("a nil iterator")
	}
}

func TestSameAnswerAgain(t *testing.T) {
	for range 2 {
		w, other := newRows(t, 2, 4), newRows(t, 2, 4)
		push(t, other, 0, 3)
		push(t, w, 0, 2, 3)
		remove(t, other, 3)
		same(t, w, 0, 2, 3)
		same(t, other, 0)
	}
}
