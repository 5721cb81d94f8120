package sched_test

import (
	"testing"

	"ensemble/api"
)

// P16.1: a worker that holds nothing, in a system where nobody waits and nobody runs, rests; so does each worker.
func TestNothingToDo(t *testing.T) {
	for workers := 1; workers <= 4; workers++ {
		r := newRig(t, config(workers, 2, 4))
		for n := range workers {
			r.play(pick(n), event(api.Idle, 0, 0))
		}
		r.refuses(pick(workers), api.ErrNone)
	}
}

// P16.1, P16.3: whom a worker holds it starts at its next step, whole and at once; no other worker does.
func TestStart(t *testing.T) {
	r := newRig(t, config(3, 2, 4, 4))
	r.play(submit(gang(5, 5, 7, 9)), event(api.Queued, 5, 1))
	r.play(submit(gang(6, 1, 1, 9)), event(api.Queued, 6, 2))
	r.play(pick(1), event(api.Headed, 5, 0), event(api.Took, 5, 7))
	// The head is 5 as long as it is reserved: no other one comes to be it.
	r.play(pick(2), event(api.Took, 6, 1))
	r.play(pick(0), event(api.Idle, 0, 0))
	r.play(pick(2), event(api.Started, 6, 1))
	if x := r.s.State(); x.Head != 5 || x.Workers[1] != 5 {
		t.Error(x)
	}
	r.play(submit(gang(7, 8, 8, 9)), event(api.Queued, 7, 3))
	r.play(pick(0), event(api.Idle, 0, 0))
	r.play(tick())
	r.play(pick(1), event(api.Started, 5, 7))
	r.play(pick(1), event(api.Headed, 7, 10), event(api.Idle, 0, 0))
	r.ticks(7)
	r.play(tick(), event(api.Dead, 6, 1))
	r.play(tick(), event(api.Dead, 5, 1))
	r.play(pick(0), event(api.Took, 7, 8))
}

// P16.1: a reservation isn't late as long as now is its Until; at the tick behind it is, and the first step lets it go, whoever's step it is.
func TestLate(t *testing.T) {
	for _, timeout := range []int{0, 1, 2, 64} {
		for behind := range 3 {
			for worker := range 2 {
				r := newRig(t, config(2, timeout, 4))
				r.play(submit(gang(5, 4, 4, 9)), event(api.Queued, 5, 1))
				r.play(pick(0), event(api.Headed, 5, 0), event(api.Took, 5, 4))
				r.ticks(timeout + behind)
				if x := r.s.State(); len(x.Holds) != 1 || x.Workers[0] != 5 || x.Head != 5 || x.Promise != 0 {
					t.Error(x)
				}
				switch {
				case behind > 0:
					r.play(pick(worker), event(api.Expired, 5, 0), event(api.Took, 5, 4))
				case worker == 0:
					r.play(pick(worker), event(api.Started, 5, 4))
				default:
					r.play(pick(worker), event(api.Idle, 0, 0))
				}
			}
		}
	}
}

// P16.1: several that are late are let go by their Ids, ahead of all else; those that aren't late stay, and so do those that run.
func TestSeveralLate(t *testing.T) {
	r := newRig(t, config(4, 2, 16))
	for k, id := range []int{30, 7, 65535, 12, 4} {
		r.play(submit(gang(id, 2, 2, 9)), event(api.Queued, id, k+1))
	}
	r.play(pick(0), event(api.Headed, 30, 0), event(api.Took, 30, 2))
	r.play(pick(0), event(api.Started, 30, 2))
	r.play(pick(3), event(api.Headed, 7, 0), event(api.Took, 7, 2))
	r.play(pick(0), event(api.Took, 65535, 2))
	r.play(pick(2), event(api.Took, 12, 2))
	r.ticks(2)
	r.play(pick(1), event(api.Took, 4, 2))
	r.play(tick())
	// Worker 1's reservation is in time; it starts 4, behind what is late. The head is promised anew.
	r.play(pick(1), event(api.Expired, 7, 0), event(api.Expired, 12, 0), event(api.Expired, 65535, 0), event(api.Started, 4, 2))
	x := r.s.State()
	if x.Head != 7 || x.Promise != 3 || len(x.Holds) != 2 {
		t.Error(x)
	}
	for n, id := range x.Workers {
		if id != 0 {
			t.Error(n, x)
		}
	}
	// They are in their queue as they were: the head, then the others by Numbers, since when they came.
	l := r.s.Look()
	for k, want := range []api.Wait{{Job: gang(7, 2, 2, 9), Number: 2}, {Job: gang(65535, 2, 2, 9), Number: 3}, {Job: gang(12, 2, 2, 9), Number: 4}} {
		if l.Waits[k] != want {
			t.Error(l.Waits)
		}
	}
	r.play(pick(1), event(api.Took, 7, 2))
	r.play(pick(2), event(api.Took, 65535, 2))
	r.play(pick(3), event(api.Took, 12, 2))
}

// P16.1: who takes a late worker's place finds its own hold let go as well, and does what there is to do then.
func TestLateOnesOwn(t *testing.T) {
	r := newRig(t, config(2, 0, 4))
	r.play(submit(gang(5, 2, 2, 9)), event(api.Queued, 5, 1))
	r.play(submit(gang(6, 2, 2, 9)), event(api.Queued, 6, 2))
	r.play(pick(0), event(api.Headed, 5, 0), event(api.Took, 5, 2))
	r.play(pick(1), event(api.Took, 6, 2))
	r.play(tick())
	r.play(pick(1), event(api.Expired, 5, 0), event(api.Expired, 6, 0), event(api.Took, 5, 2))
	r.play(pick(0), event(api.Took, 6, 2))
	r.play(pick(1), event(api.Started, 5, 2))
	r.play(pick(0), event(api.Started, 6, 2))
}

// P16.1: only if the head itself was late, it is promised anew: by what others took meanwhile, and as late as these end.
func TestHeadIsLate(t *testing.T) {
	for _, reserved := range []bool{false, true} {
		r := newRig(t, config(3, 1, 4))
		r.play(submit(gang(5, 3, 3, 9)), event(api.Queued, 5, 1))
		r.play(pick(0), event(api.Headed, 5, 0), event(api.Took, 5, 3))
		r.play(submit(gang(6, 1, 1, 15)), event(api.Queued, 6, 2))
		r.play(tick())
		r.play(pick(1), event(api.Took, 6, 1))
		r.play(submit(gang(7, 4, 4, 9)), event(api.Queued, 7, 3))
		r.play(act(api.Cancel, 5), event(api.Gone, 5, 0))
		// 7 is the head now, and promised the end of 6: reserved till 2, it runs 15.
		r.play(pick(0), event(api.Headed, 7, 17), event(api.Idle, 0, 0))
		if !reserved {
			r.play(pick(1), event(api.Started, 6, 1))
			if x := r.s.State(); x.Promise != 17 || record(x, 6).End != 16 {
				t.Error(x)
			}
		}
		r.ticks(2)
		if !reserved {
			r.play(pick(0), event(api.Idle, 0, 0))
			continue
		}
		// 6 is late, but not the head: the promise stays, and the head is taken at once.
		r.play(pick(0), event(api.Expired, 6, 0), event(api.Took, 7, 4))
		if x := r.s.State(); x.Promise != 17 {
			t.Error(x)
		}
		r.ticks(2)
		r.play(pick(2), event(api.Expired, 7, 0), event(api.Took, 7, 4))
		if x := r.s.State(); x.Promise != 5 {
			t.Error(x)
		}
	}
}

// P16.1: while the head is reserved others are filled without regard to it; what it had comes back when it is late, so it is promised now, and taken.
func TestOthersBesideReservedHead(t *testing.T) {
	r := started(t, config(2, 1, 4), gang(4, 2, 2, 9))
	r.play(submit(gang(5, 3, 3, 9)), event(api.Queued, 5, 2))
	r.play(pick(0), event(api.Headed, 5, 9), event(api.Idle, 0, 0))
	// It would be there behind 9, and make the head wait.
	r.play(submit(gang(6, 2, 2, 20)), event(api.Queued, 6, 3))
	r.play(pick(1), event(api.Idle, 0, 0))
	r.play(act(api.Finish, 4), event(api.Ended, 4, 0))
	r.play(pick(0), event(api.Took, 5, 3))
	r.play(pick(1), event(api.Idle, 0, 0))
	r.play(submit(gang(7, 1, 1, 20)), event(api.Queued, 7, 4))
	r.play(pick(1), event(api.Took, 7, 1))
	r.play(pick(1), event(api.Started, 7, 1))
	r.ticks(2)
	r.play(pick(1), event(api.Expired, 5, 0), event(api.Took, 5, 3))
	if x := r.s.State(); x.Head != 5 || x.Promise != 2 {
		t.Error(x)
	}
}

// P16.1: the first one in order is the head: by Prio and age, then by Number; those that are reserved aren't asked.
func TestWhoIsHead(t *testing.T) {
	// With an age of 5 the one that has waited 10 ticks is 2 ranks higher.
	for _, x := range []struct {
		prios [2]int
		ticks int
		first int
	}{{[2]int{0, 0}, 0, 8}, {[2]int{0, 1}, 0, 7}, {[2]int{1, 0}, 0, 8}, {[2]int{0, 1}, 4, 7}, {[2]int{0, 1}, 5, 8}, {[2]int{0, 2}, 9, 7}, {[2]int{0, 2}, 10, 8}, {[2]int{0, 15}, 74, 7}, {[2]int{0, 15}, 75, 8}, {[2]int{15, 0}, 75, 8}} {
		r := newRig(t, config(1, 2, 4))
		j := gang(8, 4, 4, 9)
		j.Prio = x.prios[0]
		r.play(submit(j), event(api.Queued, 8, 1))
		r.ticks(x.ticks)
		j = gang(7, 4, 4, 9)
		j.Queue, j.Prio = 1, x.prios[1]
		r.play(submit(j), event(api.Queued, 7, 2))
		r.play(pick(0), event(api.Headed, x.first, x.ticks), event(api.Took, x.first, 4))
	}
}

// P16.1: those that are reserved aren't asked for who is the head: if all others run, or are over, there is none.
func TestHeadIsNotReserved(t *testing.T) {
	r := newRig(t, config(3, 9, 4))
	for k, id := range []int{5, 6, 7} {
		j := gang(id, 1, 1, 9)
		j.Prio = 15 - k
		r.play(submit(j), event(api.Queued, id, k+1))
	}
	r.play(pick(0), event(api.Headed, 5, 0), event(api.Took, 5, 1))
	r.play(pick(1), event(api.Took, 6, 1))
	r.play(pick(0), event(api.Started, 5, 1))
	r.play(pick(0), event(api.Headed, 7, 0), event(api.Took, 7, 1))
	r.play(pick(0), event(api.Started, 7, 1))
	r.play(pick(0), event(api.Idle, 0, 0))
	if x := r.s.State(); x.Head != 0 {
		t.Error(x)
	}
	r.play(pick(1), event(api.Started, 6, 1))
}

// P16.1: what a worker chooses is done: the head, if it fits; else who may go ahead of it; else a growth; else a rest.
func TestChoices(t *testing.T) {
	r := started(t, config(2, 1, 4, 4), gang(4, 4, 4, 9))
	r.play(submit(gang(5, 5, 5, 9)), event(api.Queued, 5, 2))
	r.play(submit(gang(6, 1, 8, 12)), event(api.Queued, 6, 3))
	r.play(submit(gang(7, 2, 3, 8)), event(api.Queued, 7, 4))
	// 5 is promised 9, when 4 ends: of 6, which would be there still, three may go.
	r.play(pick(0), event(api.Headed, 5, 9), event(api.Took, 6, 3))
	r.play(pick(1), event(api.Idle, 0, 0))
	r.play(pick(0), event(api.Started, 6, 3))
	r.play(pick(1), event(api.Idle, 0, 0))
	r.play(act(api.Shrink, 6), event(api.Shrunk, 6, 2))
	r.play(act(api.Shrink, 6), event(api.Shrunk, 6, 1))
	// Now there are three free, and 7 ends by 9: it goes ahead, and then nobody more but 6, to whom two were left.
	r.play(pick(1), event(api.Took, 7, 3))
	r.play(pick(0), event(api.Idle, 0, 0))
	r.play(pick(1), event(api.Started, 7, 3))
	r.play(act(api.Shrink, 7), event(api.Shrunk, 7, 2))
	r.play(pick(0), event(api.Grown, 6, 2))
	r.play(act(api.Finish, 7), event(api.Ended, 7, 0))
	r.play(pick(0), event(api.Grown, 6, 3))
	r.play(pick(0), event(api.Idle, 0, 0))
	r.play(act(api.Finish, 4), event(api.Ended, 4, 0))
	r.play(pick(1), event(api.Took, 5, 5))
	// A head that is reserved is no want: 6 gets none only since nothing is left.
	r.play(pick(0), event(api.Idle, 0, 0))
	r.play(act(api.Cancel, 5), event(api.Gone, 5, 0))
	for n := 4; n <= 8; n++ {
		r.play(pick(0), event(api.Grown, 6, n))
	}
	r.play(pick(0), event(api.Idle, 0, 0))
}

// P16.1: who is filled and who grows comes in order: by rank, and by Number.
func TestInOrder(t *testing.T) {
	r := started(t, config(1, 2, 16), gang(30, 1, 1, 20), gang(9, 1, 2, 20), gang(3, 1, 3, 20))
	r.play(act(api.Shrink, 9), event(api.Shrunk, 9, 1))
	r.play(act(api.Shrink, 3), event(api.Shrunk, 3, 2))
	r.play(act(api.Shrink, 3), event(api.Shrunk, 3, 1))
	r.play(pick(0), event(api.Grown, 9, 2))
	r.play(pick(0), event(api.Grown, 3, 2))
	r.play(pick(0), event(api.Grown, 3, 3))
	r.play(pick(0), event(api.Idle, 0, 0))
	// 50 is the head, and fits only when all end; 52 has the higher Prio of the others.
	for k, id := range []int{50, 51, 52} {
		j := gang(id, 1, 1, 5)
		j.Prio = []int{15, 1, 2}[k]
		if id == 50 {
			j.Shape.Min, j.Shape.Max = 16, 16
		}
		r.play(submit(j), event(api.Queued, id, 4+k))
	}
	r.play(pick(0), event(api.Headed, 50, 20), event(api.Took, 52, 1))
	r.play(pick(0), event(api.Started, 52, 1))
	r.play(pick(0), event(api.Took, 51, 1))
}

// P16.1, P16.3: a gang with Min and Max alike neither shrinks nor grows; one that needs all of the cluster, and all of its queue's quota, starts when all is free.
func TestAllOfTheCluster(t *testing.T) {
	c := config(1, 2, 3, 3)
	c.Queues[0].Quota = api.Units{Gpus: 6, Cpus: 128}
	r := started(t, c, gang(4, 1, 1, 5))
	j := gang(5, 2, 2, 9)
	j.Shape.Gpus, j.Shape.Cpus = 3, 64
	r.play(submit(j), event(api.Queued, 5, 2))
	r.play(pick(0), event(api.Headed, 5, 5), event(api.Idle, 0, 0))
	r.ticks(4)
	r.play(tick(), event(api.Dead, 4, 1))
	r.play(pick(0), event(api.Took, 5, 2))
	r.play(pick(0), event(api.Started, 5, 2))
	x := r.s.State()
	if x.Free[0].Mask != 0 || x.Free[0].Cpus != 0 || x.Free[1].Mask != 0 || x.Free[1].Cpus != 0 || x.Used[0] != c.Queues[0].Quota {
		t.Error(x)
	}
	r.play(pick(0), event(api.Idle, 0, 0))
	r.refuses(act(api.Shrink, 5), api.ErrState)
	// One of the other queue waits for it, promised its end.
	j = gang(6, 1, 1, 1)
	j.Queue = 1
	r.play(submit(j), event(api.Queued, 6, 3))
	r.play(pick(0), event(api.Headed, 6, 14), event(api.Idle, 0, 0))
}

// P16.3: a gang gets no more than its queue has left, and grows no more than that, with more free than it may use.
func TestQuota(t *testing.T) {
	c := config(2, 2, 16)
	c.Queues[0].Quota, c.Queues[1].Quota = api.Units{Gpus: 5, Cpus: 0}, api.Units{Gpus: 16, Cpus: 3}
	r := newRig(t, c)
	r.play(submit(gang(5, 1, 3, 9)), event(api.Queued, 5, 1))
	r.play(submit(gang(6, 1, 9, 9)), event(api.Queued, 6, 2))
	j := gang(7, 1, 9, 9)
	j.Queue, j.Shape.Cpus = 1, 1
	r.play(submit(j), event(api.Queued, 7, 3))
	r.play(submit(gang(8, 1, 1, 9)), event(api.Queued, 8, 4))
	r.play(pick(0), event(api.Headed, 5, 0), event(api.Took, 5, 3))
	r.play(pick(0), event(api.Started, 5, 3))
	r.play(pick(0), event(api.Headed, 6, 0), event(api.Took, 6, 2))
	r.play(pick(1), event(api.Took, 7, 3))
	r.play(pick(0), event(api.Started, 6, 2))
	r.play(pick(1), event(api.Started, 7, 3))
	r.play(pick(0), event(api.Headed, 8, 9), event(api.Idle, 0, 0))
	if l := r.s.Look(); l.Left[0].Gpus != 0 || l.Left[1] != (api.Units{Gpus: 13, Cpus: 0}) {
		t.Error(l)
	}
	r.play(act(api.Cancel, 8), event(api.Gone, 8, 0))
	r.play(pick(0), event(api.Idle, 0, 0))
	r.play(act(api.Finish, 5), event(api.Ended, 5, 0))
	for n := 3; n <= 5; n++ {
		r.play(pick(1), event(api.Grown, 6, n))
	}
	r.play(pick(1), event(api.Idle, 0, 0))
}
