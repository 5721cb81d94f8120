package sched_test

import (
	"testing"

	"ensemble/api"
)

// waiting is a rig in which 5, of queue 0, is the head and needs five Gpus of eight; 1 has four till 9, and 2 two till 14, so it is promised 9.
func waiting(t *testing.T, workers, timeout int) *rig {
	t.Helper()
	r := started(t, config(workers, timeout, 4, 4), gang(1, 2, 4, 9), gang(2, 2, 2, 14))
	r.play(submit(gang(5, 5, 8, 9)), event(api.Queued, 5, 3))
	r.play(pick(0), event(api.Headed, 5, 9), event(api.Idle, 0, 0))
	return r
}

// promised asks who is the head, and what it is promised.
func (r *rig) promised(head, promise int) {
	r.Helper()
	if x := r.s.State(); x.Head != head || x.Promise != promise {
		r.Fatal(x)
	}
	if l := r.s.Look(); l.Head != head || l.Promise != promise {
		r.Fatal(l)
	}
}

// The document's first two examples of the whole: one that is the head is promised the end of the one that runs; a small one that ends ahead of that goes ahead, one that ends later waits.
func TestExamplesOfTheWhole(t *testing.T) {
	r := started(t, config(1, 0, 4), gang(5, 4, 4, 9))
	r.play(submit(gang(6, 4, 4, 9)), event(api.Queued, 6, 2))
	r.play(pick(0), event(api.Headed, 6, 9), event(api.Idle, 0, 0))

	r = waiting(t, 1, 1)
	r.play(submit(gang(7, 2, 2, 9)), event(api.Queued, 7, 4))
	r.play(pick(0), event(api.Idle, 0, 0))
	r.play(submit(gang(8, 2, 2, 8)), event(api.Queued, 8, 5))
	r.play(pick(0), event(api.Took, 8, 2))
	r.promised(5, 9)
	r.play(pick(0), event(api.Started, 8, 2))
	r.ticks(7)
	r.play(tick(), event(api.Dead, 8, 1))
	r.play(pick(0), event(api.Idle, 0, 0))
	r.play(tick(), event(api.Dead, 1, 1))
	r.play(pick(0), event(api.Took, 5, 6))
	r.promised(5, 9)
	r.play(pick(0), event(api.Started, 5, 6))
	r.promised(0, 0)
	// 7 has waited nine ticks, and nothing is free.
	r.play(pick(0), event(api.Headed, 7, 14), event(api.Idle, 0, 0))
}

// P16.4: whoever comes, however high its Prio, the head stays the head, and its promise as it is.
func TestHeadStays(t *testing.T) {
	r := waiting(t, 2, 2)
	for k := range 6 {
		j := gang(10+k, 1, 1+k, 20)
		j.Prio, j.Queue = 15, k%2
		r.play(submit(j), event(api.Queued, j.Id, 4+k))
		r.do(pick(k % 2))
		r.promised(5, 9)
	}
	r.play(act(api.Cancel, 11), event(api.Gone, 11, 0))
	r.promised(5, 9)
	for range 8 {
		r.do(tick())
		r.do(pick(0))
		r.do(pick(1))
		r.promised(5, 9)
	}
	r.do(tick())
	if x := r.s.State(); x.Now != 9 {
		t.Fatal(x)
	}
	r.do(pick(0))
	r.do(pick(0))
	if x := r.s.State(); x.Head == 5 || record(x, 5).State != api.Running {
		t.Error(x)
	}
}

// P16.4: units that come back sooner don't change the promise; the head is taken as soon as it fits.
func TestPromiseStays(t *testing.T) {
	for _, x := range []struct {
		acts []api.Act
		fits bool
	}{
		{nil, false}, {[]api.Act{act(api.Finish, 1)}, true}, {[]api.Act{act(api.Cancel, 1)}, true}, {[]api.Act{act(api.Finish, 2)}, false},
		{[]api.Act{act(api.Shrink, 1)}, false}, {[]api.Act{act(api.Shrink, 1), act(api.Shrink, 1)}, false}, {[]api.Act{act(api.Finish, 2), act(api.Shrink, 1)}, true},
	} {
		r := waiting(t, 2, 2)
		for _, a := range x.acts {
			if is := r.do(a); is.Err != api.OK {
				t.Fatal(a, is)
			}
			r.promised(5, 9)
		}
		// Else 1 would grow again, which it may: it ends by the promise.
		if took := r.do(pick(1)).Events[0].Kind == api.Took; took != x.fits {
			t.Error(x.acts, r.s.State())
		}
		r.promised(5, 9)
	}
}

// P16.1, P16.4: a drain and an undrain promise the head anew, also of nodes that nobody has; nothing else does.
func TestPromisedAnew(t *testing.T) {
	c := config(2, 2, 4, 4, 1)
	r := started(t, c, gang(1, 4, 4, 9), gang(2, 2, 2, 14))
	r.play(submit(gang(5, 5, 8, 9)), event(api.Queued, 5, 3))
	r.play(pick(0), event(api.Headed, 5, 9), event(api.Idle, 0, 0))
	r.ticks(3)
	// Three are free still, of five.
	r.play(act(api.Drain, 2))
	r.promised(5, 9)
	r.play(act(api.Finish, 2), event(api.Ended, 2, 0))
	r.promised(5, 9)
	r.play(act(api.Undrain, 2))
	r.promised(5, 3)
	r.play(act(api.Drain, 2))
	r.promised(5, 9)
	r.play(act(api.Drain, 1))
	r.promised(5, never)
	r.play(pick(0), event(api.Idle, 0, 0))
	r.play(act(api.Drain, 0), event(api.Dead, 1, 0))
	r.promised(5, never)
	r.refuses(act(api.Drain, 0), api.ErrTwice)
	r.refuses(act(api.Drain, 3), api.ErrRange)
	r.play(act(api.Undrain, 1))
	r.promised(5, never)
	r.play(tick())
	r.play(act(api.Undrain, 0))
	r.promised(5, 4)
	r.play(tick())
	r.refuses(act(api.Undrain, 0), api.ErrNone)
	r.promised(5, 4)
	r.play(pick(1), event(api.Took, 5, 8))
	r.promised(5, 4)
}

// P16.1: a drain that kills several tells them by their Ids, and then the head, which waits, is promised anew; so it is by the undrain behind it.
func TestDrainBesideHead(t *testing.T) {
	for _, x := range []struct {
		node, promise int
		dead          []api.Event
	}{
		// On node 1, of six, 90 and 30 run; on node 0, of four, 9 and 7.
		{0, 15, []api.Event{event(api.Dead, 7, 0), event(api.Dead, 9, 0)}},
		{1, never, []api.Event{event(api.Dead, 30, 0), event(api.Dead, 90, 0)}},
	} {
		r := started(t, config(2, 5, 4, 6), gang(90, 3, 3, 12), gang(9, 3, 3, 9), gang(30, 2, 2, 15), gang(7, 1, 1, 9))
		r.play(submit(gang(5, 5, 5, 9)), event(api.Queued, 5, 5))
		r.play(pick(0), event(api.Headed, 5, 9), event(api.Idle, 0, 0))
		r.ticks(2)
		r.play(act(api.Drain, x.node), x.dead...)
		r.promised(5, x.promise)
		r.play(tick())
		r.play(act(api.Undrain, x.node))
		r.promised(5, 3)
	}
}

// P16.4: a head that is promised Never, since nodes are drained, endangers nobody; it is promised anew with the node.
func TestNever(t *testing.T) {
	r := newRig(t, config(1, 2, 4, 4))
	r.play(act(api.Drain, 1))
	r.play(submit(gang(5, 5, 5, 9)), event(api.Queued, 5, 1))
	r.play(submit(gang(6, 1, 4, 20)), event(api.Queued, 6, 2))
	r.play(pick(0), event(api.Headed, 5, never), event(api.Took, 6, 4))
	r.play(pick(0), event(api.Started, 6, 4))
	r.play(act(api.Undrain, 1))
	r.promised(5, 20)
	r.ticks(19)
	r.play(pick(0), event(api.Idle, 0, 0))
	r.play(tick(), event(api.Dead, 6, 1))
	r.play(pick(0), event(api.Took, 5, 5))
}

// P16.1: a head that is reserved is promised anew by a drain, too, its own hold among those that end; one that has a slot of the node is dead, and no head any more.
func TestReservedHeadIsPromisedAnew(t *testing.T) {
	r := newRig(t, config(2, 3, 4, 4, 4))
	r.play(submit(gang(5, 5, 8, 9)), event(api.Queued, 5, 1))
	r.play(pick(0), event(api.Headed, 5, 0), event(api.Took, 5, 8))
	r.ticks(1)
	r.play(act(api.Drain, 2))
	// Reserved till 3, it runs 9.
	r.promised(5, 12)
	r.play(act(api.Undrain, 2))
	r.promised(5, 12)
	r.play(submit(gang(6, 1, 4, 20)), event(api.Queued, 6, 2))
	r.play(pick(1), event(api.Took, 6, 4))
	r.play(act(api.Drain, 0), event(api.Dead, 5, 0))
	r.promised(0, 0)
	if x := r.s.State(); x.Workers[0] != 0 || x.Workers[1] != 6 || x.Free[1].Mask != 15 {
		t.Error(x)
	}
	r.play(pick(0), event(api.Idle, 0, 0))
}

// P16.1: a promise hangs on what the head's queue has left, too, and on its least members.
func TestPromiseOfQuota(t *testing.T) {
	c := config(1, 1, 8, 8)
	c.Queues[0].Quota.Gpus = 6
	r := started(t, c, gang(1, 1, 3, 9), gang(2, 1, 2, 14))
	j := gang(3, 4, 4, 12)
	j.Queue = 1
	r.play(submit(j), event(api.Queued, 3, 3))
	r.play(pick(0), event(api.Headed, 3, 0), event(api.Took, 3, 4))
	r.play(pick(0), event(api.Started, 3, 4))
	for _, x := range []struct{ least, promise int }{{1, 0}, {2, 9}, {4, 9}, {5, 14}, {6, 14}} {
		r.play(submit(gang(10+x.least, x.least, 16, 9)), event(api.Queued, 10+x.least, r.s.State().Arrivals+1))
		is := r.do(pick(0))
		if is.Events[0] != event(api.Headed, 10+x.least, x.promise) {
			t.Error(x, is)
		}
		r.play(act(api.Cancel, 10+x.least), event(api.Gone, 10+x.least, 0))
	}
}

// P16.1: of those that are reserved what counts is when they end at the latest; one that is late counts so, too, till a step lets it go.
func TestPromiseBesideReserved(t *testing.T) {
	for ticks := range 10 {
		r := started(t, config(2, 2, 4, 1), gang(1, 1, 1, 20))
		r.play(act(api.Drain, 1))
		r.play(submit(gang(4, 1, 1, 9)), event(api.Queued, 4, 2))
		r.play(submit(gang(7, 2, 2, 4)), event(api.Queued, 7, 3))
		r.play(pick(1), event(api.Headed, 4, 0), event(api.Took, 4, 1))
		r.play(pick(0), event(api.Took, 7, 2))
		r.play(act(api.Cancel, 4), event(api.Gone, 4, 0))
		r.play(submit(gang(5, 3, 3, 9)), event(api.Queued, 5, 4))
		// 7 is reserved till 2, and runs 4.
		r.play(pick(1), event(api.Headed, 5, 6), event(api.Idle, 0, 0))
		r.ticks(ticks)
		r.promised(5, 6)
		r.play(act(api.Undrain, 1))
		r.promised(5, max(6, ticks))
		r.play(act(api.Drain, 1))
		r.promised(5, max(6, ticks))
		if ticks <= 2 {
			r.play(pick(1), event(api.Idle, 0, 0))
			r.play(pick(0), event(api.Started, 7, 2))
			r.promised(5, 6)
			continue
		}
		r.play(pick(ticks%2), event(api.Expired, 7, 0), event(api.Took, 5, 3))
		r.promised(5, max(6, ticks))
	}
}

// P16.4: beside a head one grows only so far as leaves it its promise; and behind it, without bound.
func TestGrowthBesideHead(t *testing.T) {
	r := started(t, config(1, 2, 8), gang(1, 1, 4, 9), gang(2, 1, 4, 14))
	for n := 3; n >= 1; n-- {
		r.play(act(api.Shrink, 1), event(api.Shrunk, 1, n))
		r.play(act(api.Shrink, 2), event(api.Shrunk, 2, n))
	}
	r.play(submit(gang(5, 7, 7, 9)), event(api.Queued, 5, 3))
	r.play(pick(0), event(api.Headed, 5, 9), event(api.Grown, 1, 2))
	r.play(pick(0), event(api.Grown, 1, 3))
	r.play(pick(0), event(api.Grown, 1, 4))
	// 2 ends behind the promise: the head needs all but the one that it has.
	r.play(pick(0), event(api.Idle, 0, 0))
	r.ticks(8)
	r.play(tick(), event(api.Dead, 1, 1))
	r.play(pick(0), event(api.Took, 5, 7))
	r.play(act(api.Cancel, 5), event(api.Gone, 5, 0))
	for n := 2; n <= 4; n++ {
		r.play(pick(0), event(api.Grown, 2, n))
	}
	r.play(pick(0), event(api.Idle, 0, 0))
}
