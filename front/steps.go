package front

import (
	"overfall/api"
	"overfall/core"
	"overfall/gate"
	"overfall/ring"
)

func (f *Front) Begin(thread int, op core.Op) api.Errno {
	if f == nil {
		return api.ErrNone
	}
	if !f.has(thread) {
		return api.ErrArg
	}
	if f.Where(thread) != Rest {
		return api.ErrBusy
	}
	f.callers[thread] = caller{next: Post, op: op}
	return api.OK
}

// Call comes back to the same steps for as long as another thread owns the lock: it must not block, since it may be the next owner.
func (f *Front) Call(thread int, op core.Op) core.Result {
	if f.Begin(thread, op) != api.OK {
		return core.Result{}
	}
step:
	result, ended := f.Step(thread)
	if !ended {
		goto step
	}
	return result
}

func (f *Front) Step(thread int) (core.Result, bool) {
	switch f.Where(thread) {
	case Post:
		f.post(thread)
	case Join:
		return f.join(thread)
	case Wait:
		return f.collect(thread)
	case Lock:
		f.try(thread)
	case Take:
		f.take(thread)
	case Apply:
		f.apply(thread)
	case Tell:
		f.tell(thread)
	case Free:
		f.free(thread)
	}
	return core.Result{}, false
}

func (f *Front) post(thread int) {
	c := &f.callers[thread]
	f.boxes[thread].Post(c.op)
	c.act = f.entry(thread)
	c.next = Join
}

// entry is an act by which a thread enters the ring: where each thread has a position, none needs to look whether one is free.
func (f *Front) entry(thread int) *ring.Act {
	if f.Threads() <= f.ring.Cap() {
		return f.ring.Join(uint64(thread))
	}
	return f.ring.Push(uint64(thread))
}

func (f *Front) join(thread int) (core.Result, bool) {
	c := &f.callers[thread]
	if !c.act.Step() {
		return core.Result{}, false
	}
	if !c.act.OK() {
		f.withdraw(thread)
		return f.end(thread, core.Result{Answer: gate.Busy})
	}
	c.next = Wait
	return core.Result{}, false
}

// withdraw does itself what the owner of the lock would: nobody else looks into a box whose thread isn't in the ring.
func (f *Front) withdraw(thread int) {
	f.boxes[thread].Finish(core.Result{})
	f.boxes[thread].Collect()
}

func (f *Front) end(thread int, result core.Result) (core.Result, bool) {
	f.callers[thread] = caller{}
	return result, true
}

func (f *Front) collect(thread int) (core.Result, bool) {
	result, done := f.boxes[thread].Collect()
	if done {
		return f.end(thread, result)
	}
	f.callers[thread].next = Lock
	return core.Result{}, false
}

func (f *Front) try(thread int) {
	c := &f.callers[thread]
	if !f.lock.Try(thread) {
		c.next = Wait
		return
	}
	c.left = f.Threads()
	f.takeNext(c)
}

// takeNext begins a new Pop, unless the thread has served so many calls that the others, who come back with new ones, could keep it for ever.
func (f *Front) takeNext(c *caller) {
	if c.left == 0 {
		c.next = Free
		return
	}
	c.act = f.ring.Pop()
	c.next = Take
}

func (f *Front) take(thread int) {
	c := &f.callers[thread]
	if !c.act.Step() {
		return
	}
	if !c.act.OK() {
		c.next = Free
		return
	}
	c.served = int(c.act.Value())
	c.next = Apply
}

func (f *Front) apply(thread int) {
	c := &f.callers[thread]
	now := f.Now()
	op, _ := f.boxes[c.served].Op()
	c.result = f.core.Do(now, op)
	f.record(Applied{Thread: c.served, Clock: now, Op: op, Result: c.result})
	c.next = Tell
}

func (f *Front) tell(thread int) {
	c := &f.callers[thread]
	f.boxes[c.served].Finish(c.result)
	c.left--
	f.takeNext(c)
}

func (f *Front) free(thread int) {
	f.lock.Free(thread)
	f.callers[thread].next = Wait
}
