package lock_test

import (
	"math"
	"math/rand"
	"runtime"
	"sync"
	"sync/atomic"
	"testing"
	"time"

	"overfall/api"
	"overfall/lock"
)

// numbers are ids of threads: the least, the greatest, those of the limits, and some that agree in their low bits.
func numbers() []int {
	return []int{0, 1, 2, 15, api.MaxThreads, 255, 256, 1<<31 - 1, 1 << 31, 1<<32 - 1, 1 << 32, 1<<32 + 1, 1 << 62, math.MaxInt - 1, math.MaxInt}
}

// wrong are ids that no thread has.
func wrong() []int {
	return []int{-1, -2, -3, -256, -1 << 31, -1<<31 - 1, -1 << 32, 1 - 1<<32, -1 << 62, math.MinInt + 1, math.MinInt}
}

// owned holds the owner of a lock against the one that it should have.
func owned(t *testing.T, l *lock.Lock, want int) {
	t.Helper()
	if id, ok := l.Owner(); id != want || !ok {
		t.Fatalf("the owner is %d, %v, not %d", id, ok, want)
	}
}

func free(t *testing.T, l *lock.Lock) {
	t.Helper()
	if id, ok := l.Owner(); id != 0 || ok {
		t.Fatalf("the owner is %d, %v, though the lock is free", id, ok)
	}
}

// together calls f from so many goroutines at once, and returns how many of them answered true.
func together(threads int, f func(id int) bool) int {
	var start, end sync.WaitGroup
	var won atomic.Int64
	start.Add(1)
	for id := range threads {
		end.Go(func() {
			start.Wait()
			if f(id) {
				won.Add(1)
			}
		})
	}
	start.Done()
	end.Wait()
	return int(won.Load())
}

// retried repeats what others may hold up for a while, and gives up where a fault holds it up for ever.
func retried(try func() bool) bool {
	for start := time.Now(); !try(); runtime.Gosched() {
		if time.Since(start) > 20*time.Second {
			return false
		}
	}
	return true
}

// P19.1

func TestExample(t *testing.T) {
	l := lock.NewLock()
	if !l.Try(1) || l.Try(2) || l.Free(2) || !l.Free(1) {
		t.Error("not true, false, false, true")
	}
}

func TestNewLockIsFree(t *testing.T) {
	l := lock.NewLock()
	if l == nil {
		t.Fatal("no lock")
	}
	free(t, l)
	for _, id := range append(numbers(), wrong()...) {
		if l.Free(id) {
			t.Errorf("%d freed what nobody has", id)
		}
		free(t, l)
	}
}

func TestOwnerKeepsTheLock(t *testing.T) {
	l := lock.NewLock()
	for _, id := range numbers() {
		for range 2 {
			if !l.Try(id) {
				t.Fatalf("%d did not get a free lock", id)
			}
			owned(t, l, id)
			for _, other := range numbers() {
				if l.Try(other) {
					t.Fatalf("%d got the lock of %d", other, id)
				}
				if other != id && l.Free(other) {
					t.Fatalf("%d freed the lock of %d", other, id)
				}
				owned(t, l, id)
			}
			if !l.Free(id) || l.Free(id) {
				t.Fatalf("%d did not free its lock just once", id)
			}
			free(t, l)
		}
	}
}

func TestIdsBelowZero(t *testing.T) {
	l := lock.NewLock()
	for _, id := range wrong() {
		if l.Try(id) || l.Free(id) {
			t.Errorf("%d got or freed a free lock", id)
		}
		free(t, l)
	}
	for _, owner := range numbers() {
		l.Try(owner)
		for _, id := range wrong() {
			if l.Try(id) || l.Free(id) {
				t.Errorf("%d got or freed the lock of %d", id, owner)
			}
			owned(t, l, owner)
		}
		l.Free(owner)
		free(t, l)
	}
}

func TestLocksShareNothing(t *testing.T) {
	a, b := lock.NewLock(), lock.NewLock()
	a.Try(3)
	free(t, b)
	if b.Free(3) || !b.Try(4) {
		t.Error("another lock's owner counts")
	}
	owned(t, a, 3)
	a.Free(3)
	owned(t, b, 4)
}

// TestLockInAnyOrder compares random calls with a plain owner, -1 for none.
func TestLockInAnyOrder(t *testing.T) {
	r := rand.New(rand.NewSource(19))
	ids := append(numbers(), wrong()...)
	for range 200 {
		l, owner := lock.NewLock(), -1
		for range 200 {
			id := ids[r.Intn(len(ids))]
			if r.Intn(3) == 0 && owner >= 0 {
				id = owner
			}
			may := id >= 0 && owner == -1
			if r.Intn(2) == 0 {
				if l.Try(id) != may {
					t.Fatalf("Try of %d, owner %d: not %v", id, owner, may)
				}
				if may {
					owner = id
				}
			} else {
				may = id >= 0 && owner == id
				if l.Free(id) != may {
					t.Fatalf("Free of %d, owner %d: not %v", id, owner, may)
				}
				if may {
					owner = -1
				}
			}
			if owner == -1 {
				free(t, l)
			} else {
				owned(t, l, owner)
			}
		}
	}
}

func TestNilLock(t *testing.T) {
	var l *lock.Lock
	for _, id := range append(numbers(), wrong()...) {
		if l.Try(id) || l.Free(id) {
			t.Errorf("%d got or freed no lock", id)
		}
		free(t, l)
	}
}

func TestOnlyOneOfManyGetsTheLock(t *testing.T) {
	l := lock.NewLock()
	for range 2000 {
		var winner atomic.Int64
		won := together(api.MaxThreads, func(id int) bool {
			ok := l.Try(id)
			if ok {
				winner.Store(int64(id))
			}
			return ok
		})
		if won != 1 {
			t.Fatalf("%d got the lock", won)
		}
		owned(t, l, int(winner.Load()))
		l.Free(int(winner.Load()))
	}
}

func TestOnlyOneOfManyFreesTheLock(t *testing.T) {
	l := lock.NewLock()
	for range 2000 {
		l.Try(7)
		if won := together(api.MaxThreads, func(int) bool { return l.Free(7) }); won != 1 {
			t.Fatalf("%d freed the lock", won)
		}
		free(t, l)
	}
}

// TestFreeAndTryAtOnce: whoever frees has had the lock, and so the lock is passed on as often as it is got.
func TestFreeAndTryAtOnce(t *testing.T) {
	l := lock.NewLock()
	var got, freed atomic.Int64
	together(8, func(id int) bool {
		for range 20000 {
			if l.Try(id % 2) {
				got.Add(1)
			}
			if l.Free(id % 2) {
				freed.Add(1)
			}
		}
		return true
	})
	kept := int64(0)
	if _, ok := l.Owner(); ok {
		kept = 1
	}
	if got.Load() != freed.Load()+kept || got.Load() == 0 {
		t.Errorf("got %d times, freed %d times, kept %d times", got.Load(), freed.Load(), kept)
	}
}

// TestOwnersDoNotOverlap: what an owner does to plain memory, the next one sees, and nobody else writes meanwhile.
func TestOwnersDoNotOverlap(t *testing.T) {
	const threads, rounds = 8, 3000
	l := lock.NewLock()
	var plain [3]int
	together(threads, func(id int) bool {
		for range rounds {
			if !retried(func() bool { return l.Try(id) }) {
				t.Errorf("%d never got the lock", id)
				return false
			}
			for i := range plain {
				plain[i]++
			}
			if owner, ok := l.Owner(); owner != id || !ok {
				t.Errorf("%d has the lock, but the owner is %d, %v", id, owner, ok)
			}
			if !l.Free(id) {
				t.Errorf("%d could not free its lock", id)
			}
		}
		return true
	})
	free(t, l)
	if plain != [3]int{threads * rounds, threads * rounds, threads * rounds} {
		t.Error("writes are lost:", plain)
	}
}

// TestOwnerBesideOthers: an owner that is seen is one of those who try, not a number between two of them.
func TestOwnerBesideOthers(t *testing.T) {
	l := lock.NewLock()
	ids := [4]int{0, math.MaxInt, 1 << 32, 1<<32 - 1}
	together(5, func(thread int) bool {
		for range 20000 {
			if thread < 4 {
				l.Try(ids[thread])
				l.Free(ids[thread])
				continue
			}
			id, ok := l.Owner()
			if id != ids[0] && id != ids[1] && id != ids[2] && id != ids[3] || !ok && id != 0 {
				t.Error("the owner is", id, ok)
			}
		}
		return true
	})
	free(t, l)
}

// TestRefusedAtOnce: nobody waits for the owner.
func TestRefusedAtOnce(t *testing.T) {
	l := lock.NewLock()
	l.Try(0)
	if won := together(64, func(id int) bool { return l.Try(id) || id != 0 && l.Free(id) }); won != 0 {
		t.Errorf("%d got or freed the lock of 0", won)
	}
	owned(t, l, 0)
}
