package lin

import (
	"slices"

	"overfall/api"
	"overfall/conf"
	"overfall/core"
)

// Done is a call that began and, unless its End is below 0, ended with a result.
type Done struct {
	Begin, End int
	Op         core.Op
	Result     core.Result
}

// search extends an order, call by call, and takes back what leads nowhere.
type search struct {
	config conf.Config
	now    int64
	calls  []Done
	order  []int
}

func Order(c conf.Config, now int64, l []Done) ([]int, api.Errno) {
	if e := c.Valid(); e != api.OK {
		return nil, e
	}
	if len(l) > api.MaxCalls {
		return nil, api.ErrLong
	}
	s := search{config: c, now: now, calls: l}
	if !s.find() {
		return nil, api.ErrNone
	}
	return s.order, api.OK
}

// find reports whether the order can be extended to one that contains all that have ended; if not, it is as it was.
func (s *search) find() bool {
	if s.complete() {
		return true
	}
	for i := range s.calls {
		if !s.mayBeNext(i) {
			continue
		}
		s.order = append(s.order, i)
		if s.find() {
			return true
		}
		s.order = s.order[:len(s.order)-1]
	}
	return false
}

func (s *search) complete() bool {
	for i := range s.calls {
		if s.missing(i) {
			return false
		}
	}
	return true
}

// missing reports whether a call must be contained, but isn't yet.
func (s *search) missing(i int) bool {
	call := s.calls[i]
	return ended(call.End) && !busy(call.End, call.Result) && !slices.Contains(s.order, i)
}

func (s *search) mayBeNext(i int) bool {
	call := s.calls[i]
	if busy(call.End, call.Result) || slices.Contains(s.order, i) {
		return false
	}
	for j, other := range s.calls {
		if s.missing(j) && other.End < call.Begin {
			return false
		}
	}
	return !ended(call.End) || call.Result == s.answer(i)
}

// answer executes the order anew, and then a call: what a core has executed can't be taken back.
func (s *search) answer(i int) core.Result {
	k, _ := core.New(s.config) // no error: the configuration was found valid
	for _, before := range s.order {
		k.Do(s.now, s.calls[before].Op)
	}
	return k.Do(s.now, s.calls[i].Op)
}
