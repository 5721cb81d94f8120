package sched_test

import (
	"testing"

	"ensemble/api"
)

// stand is something that a gang can be: how the gang 7 comes to it, of 2 to 3 members, in a system of two workers and nodes of 4 and 2 Gpus; and what then each act upon it tells.
type stand struct {
	name string
	// acts lead there.
	acts []api.Act
	// state is what it is then, and head and worker whether it is the head, and the worker that holds it; -1 is none.
	state  int
	head   bool
	worker int
	// cancel, finish and shrink are what acts upon it are told.
	cancel, finish, shrink api.Reply
	// step is what the next step of worker 1 tells.
	step []api.Event
}

func none() api.Reply { return refused(api.ErrNone) }

func gone() api.Reply { return done(event(api.Gone, 7, 0)) }

// stands are all that a gang can be.
func stands() []stand {
	seven := submit(gang(7, 2, 3, 5))
	// 4 has one node, and 5 needs both: it is the head till 4 ends at 8.
	before := []api.Act{submit(gang(4, 4, 4, 8)), pick(0), pick(0), submit(gang(5, 6, 6, 9)), tick()}
	headed := []api.Event{event(api.Headed, 5, 8)}
	idle := []api.Event{event(api.Idle, 0, 0)}
	l := func(acts ...api.Act) []api.Act { return append(append([]api.Act(nil), before...), acts...) }
	alone := func(acts ...api.Act) []api.Act { return append([]api.Act{seven}, acts...) }
	return []stand{
		{"never came", nil, 0, false, -1, none(), none(), none(), idle},
		{"waits", l(seven), api.Waiting, false, -1, gone(), none(), none(), append(headed, event(api.Took, 7, 2))},
		{"waits behind", l(submit(gang(7, 3, 3, 6)), pick(1)), api.Waiting, false, -1, gone(), none(), none(), idle},
		{"is the head", append(before[:3:3], submit(gang(7, 3, 3, 6)), pick(0)), api.Waiting, true, -1, gone(), none(), none(), idle},
		{"is reserved", l(seven, pick(1)), api.Reserved, false, 1, gone(), none(), none(), []api.Event{event(api.Started, 7, 2)}},
		{"is reserved elsewhere", l(seven, pick(0)), api.Reserved, false, 0, gone(), none(), none(), idle},
		{"is the head and reserved", alone(pick(1)), api.Reserved, true, 1, gone(), none(), none(), []api.Event{event(api.Started, 7, 3)}},
		{"runs", alone(pick(0), pick(0)), api.Running, false, -1, gone(), done(event(api.Ended, 7, 0)), done(event(api.Shrunk, 7, 2)), idle},
		{"runs with its least", alone(pick(0), pick(0), act(api.Shrink, 7)), api.Running, false, -1, gone(), done(event(api.Ended, 7, 0)), refused(api.ErrState), []api.Event{event(api.Grown, 7, 3)}},
		{"is finished", alone(pick(0), pick(0), act(api.Finish, 7)), api.Finished, false, -1, none(), none(), none(), idle},
		{"was killed while reserved", alone(pick(0), act(api.Drain, 0)), api.Killed, false, -1, none(), none(), none(), idle},
		{"was killed while it ran", alone(pick(0), pick(0), act(api.Drain, 0)), api.Killed, false, -1, none(), none(), none(), idle},
		{"was killed at its end", alone(pick(0), pick(0), tick(), tick(), tick(), tick(), tick()), api.Killed, false, -1, none(), none(), none(), idle},
		{"was cancelled", alone(act(api.Cancel, 7)), api.Cancelled, false, -1, none(), none(), none(), idle},
		{"was cancelled while reserved", alone(pick(0), act(api.Cancel, 7)), api.Cancelled, false, -1, none(), none(), none(), idle},
		{"was cancelled while it ran", alone(pick(0), pick(0), act(api.Cancel, 7)), api.Cancelled, false, -1, none(), none(), none(), idle},
		{"was killed while late", alone(pick(0), tick(), tick(), tick(), act(api.Drain, 0)), api.Killed, false, -1, none(), none(), none(), idle},
	}
}

// at is a rig in which 7 stands so.
func (x stand) at(t *testing.T) *rig {
	t.Helper()
	r := newRig(t, config(2, 2, 4, 2))
	for _, a := range x.acts {
		if is := r.do(a); is.Err != api.OK {
			t.Fatal(x.name, a, is)
		}
	}
	s := r.s.State()
	if g := record(s, 7); g.State != x.state || (s.Head == 7) != x.head {
		t.Fatal(x.name, s)
	}
	for k, id := range s.Workers {
		if (id == 7) != (k == x.worker) {
			t.Fatal(x.name, s)
		}
	}
	return r
}

// P16.1: each act upon a gang that is whatever a gang can be.
func TestActsUponEachState(t *testing.T) {
	for _, x := range stands() {
		for kind, want := range map[int]api.Reply{api.Cancel: x.cancel, api.Finish: x.finish, api.Shrink: x.shrink} {
			r := x.at(t)
			if want.Err != api.OK {
				r.refuses(act(kind, 7), want.Err)
				continue
			}
			r.play(act(kind, 7), want.Events...)
			if kind != api.Shrink {
				x.over(r, map[int]int{api.Cancel: api.Cancelled, api.Finish: api.Finished}[kind])
			}
		}
		for node := range 2 {
			x.drained(x.at(t), node)
		}
		r := x.at(t)
		r.play(pick(1), x.step...)
		r = x.at(t)
		again := gang(7, 1, 1, 1)
		if again.Queue = 1; x.state == 0 {
			r.play(submit(again), event(api.Queued, 7, 1))
		} else {
			r.refuses(submit(again), api.ErrTwice)
		}
	}
}

// drained asks whether a drained node kills 7 just if it has a slot of that node.
func (x stand) drained(r *rig, node int) {
	r.Helper()
	touches := false
	for _, h := range r.s.State().Holds {
		for _, s := range h.Slots {
			touches = touches || h.Id == 7 && s.Spot.Node == node
		}
	}
	told := false
	for _, y := range r.do(act(api.Drain, node)).Events {
		told = told || y == event(api.Dead, 7, 0)
	}
	if told != touches {
		r.Fatal(x.name, node, r.s.State())
	}
	if touches {
		x.over(r, api.Killed)
	} else if g := record(r.s.State(), 7); g.State != x.state {
		r.Fatal(x.name, node, g)
	}
}

// over asks whether 7 has nothing any more, isn't held by anyone, and doesn't come again, whatever comes.
func (x stand) over(r *rig, state int) {
	r.Helper()
	s := r.s.State()
	if g := record(s, 7); g.State != state || g.Members != 0 {
		r.Fatal(x.name, s)
	}
	if s.Head == 7 || s.Workers[0] == 7 || s.Workers[1] == 7 {
		r.Fatal(x.name, s)
	}
	for range 12 {
		for _, a := range []api.Act{pick(0), pick(1), tick()} {
			for _, y := range r.do(a).Events {
				if y.Id == 7 {
					r.Fatal(x.name, a, y)
				}
			}
		}
	}
	r.refuses(act(api.Cancel, 7), api.ErrNone)
	r.refuses(submit(gang(7, 1, 1, 1)), api.ErrTwice)
}

// The chapter's example: one gang, submitted; three steps of worker 0.
func TestExample(t *testing.T) {
	r := newRig(t, config(1, 2, 4))
	r.play(submit(gang(5, 1, 4, 5)), event(api.Queued, 5, 1))
	r.play(pick(0), event(api.Headed, 5, 0), event(api.Took, 5, 4))
	r.play(pick(0), event(api.Started, 5, 4))
	r.play(pick(0), event(api.Idle, 0, 0))
}

// started is a rig in which gangs of one Gpu each run, one behind the other; they started in this order.
func started(t *testing.T, c api.Config, jobs ...api.Job) *rig {
	t.Helper()
	r := newRig(t, c)
	for k, j := range jobs {
		r.play(submit(j), event(api.Queued, j.Id, k+1))
		r.play(pick(0), event(api.Headed, j.Id, 0), event(api.Took, j.Id, j.Shape.Max))
		r.play(pick(0), event(api.Started, j.Id, j.Shape.Max))
	}
	return r
}

// P16.1: at a tick nobody ends, one does, and several do, of the same End by their Ids; each at its own End.
func TestTick(t *testing.T) {
	r := started(t, config(1, 2, 16), gang(9, 1, 1, 3), gang(300, 1, 2, 5), gang(4, 1, 1, 3), gang(5, 2, 2, 2), gang(2, 1, 1, 5), gang(65535, 1, 1, 5), gang(1, 1, 1, 6))
	r.play(tick())
	r.play(tick(), event(api.Dead, 5, 1))
	r.play(tick(), event(api.Dead, 4, 1), event(api.Dead, 9, 1))
	r.play(tick())
	r.play(tick(), event(api.Dead, 2, 1), event(api.Dead, 300, 1), event(api.Dead, 65535, 1))
	r.play(tick(), event(api.Dead, 1, 1))
	r.ticks(20)
	if x := r.s.State(); x.Now != 26 || len(x.Holds) != 0 || x.Gangs[0].Began != 0 || x.Gangs[0].End != 3 {
		t.Error(x)
	}
}

// P16.1: a Tick ends those that run alone: who is reserved, or waits, isn't touched, however late.
func TestTickEndsRunning(t *testing.T) {
	r := newRig(t, config(2, 0, 2))
	r.play(submit(gang(5, 1, 1, 1)), event(api.Queued, 5, 1))
	r.play(submit(gang(6, 1, 1, 1)), event(api.Queued, 6, 2))
	r.play(submit(gang(7, 2, 2, 1)), event(api.Queued, 7, 3))
	r.play(pick(0), event(api.Headed, 5, 0), event(api.Took, 5, 1))
	r.play(pick(0), event(api.Started, 5, 1))
	r.play(pick(1), event(api.Headed, 6, 0), event(api.Took, 6, 1))
	r.play(tick(), event(api.Dead, 5, 1))
	r.ticks(9)
	if x := r.s.State(); record(x, 6).State != api.Reserved || record(x, 7).State != api.Waiting || x.Workers[1] != 6 {
		t.Error(x)
	}
}

// P16.1: a gang that is over ahead of its End doesn't end again; and at its End it is over, so nothing ends it a second time.
func TestTheTickInWhichItWouldEnd(t *testing.T) {
	for _, x := range []struct {
		a    api.Act
		e    api.Errno
		want api.Event
	}{{act(api.Finish, 7), api.ErrNone, event(api.Ended, 7, 0)}, {act(api.Cancel, 7), api.ErrNone, event(api.Gone, 7, 0)}, {act(api.Drain, 0), api.OK, event(api.Dead, 7, 0)}} {
		for before := range 4 {
			r := started(t, config(1, 2, 4), gang(7, 1, 2, 4), gang(3, 1, 1, 5))
			r.ticks(before)
			if is := r.do(x.a); is.Err != api.OK {
				t.Fatal(is)
			}
			r.ticks(4 - before)
			if x.a.Kind == api.Drain {
				r.ticks(1)
			} else {
				r.play(tick(), event(api.Dead, 3, 1))
			}
		}
		r := started(t, config(1, 2, 4), gang(7, 1, 2, 4))
		r.ticks(3)
		r.play(tick(), event(api.Dead, 7, 1))
		if x.e != api.OK {
			r.refuses(x.a, x.e)
		} else {
			r.play(x.a)
		}
		r.ticks(9)
		// And in the last tick in which it runs.
		r = started(t, config(1, 2, 4), gang(7, 1, 2, 4))
		r.ticks(3)
		r.play(x.a, x.want)
		r.ticks(9)
	}
}

// P16.1: a gang shrinks down to Min, and not once more; it loses the slot that it got last.
func TestShrink(t *testing.T) {
	for least := 1; least <= 4; least++ {
		r := started(t, config(1, 2, 2, 4), gang(7, least, 4, 9), gang(3, 1, 1, 9))
		for n := 3; n >= least; n-- {
			before := r.s.State().Holds[1].Slots
			r.play(act(api.Shrink, 7), event(api.Shrunk, 7, n))
			x := r.s.State()
			if h := x.Holds[1]; h.Id != 7 || len(h.Slots) != n || h.Slots[n-1] != before[n-1] || record(x, 7).Members != n {
				t.Error(x)
			}
		}
		r.refuses(act(api.Shrink, 7), api.ErrState)
		r.refuses(act(api.Shrink, 7), api.ErrState)
		r.refuses(act(api.Shrink, 3), api.ErrState)
		// A step gives it one more, as long as it has less than Max.
		for n := least + 1; n <= 4; n++ {
			r.play(pick(0), event(api.Grown, 7, n))
		}
		r.play(pick(0), event(api.Idle, 0, 0))
	}
}

// P16.1: a drained node kills nobody, one, or all who have a slot of it, rising by Ids, and gives back what they have elsewhere, too.
func TestDrain(t *testing.T) {
	c := config(2, 2, 4, 2, 2, 1)
	r := started(t, c, gang(9, 4, 4, 9), gang(5, 3, 3, 9))
	// 5 has all of node 1, and one Gpu of node 2; 8 has the other one of node 2, reserved by worker 1.
	r.play(submit(gang(8, 1, 1, 9)), event(api.Queued, 8, 3))
	r.play(pick(1), event(api.Headed, 8, 0), event(api.Took, 8, 1))
	r.play(act(api.Drain, 3))
	r.refuses(act(api.Drain, 3), api.ErrTwice)
	r.play(act(api.Drain, 2), event(api.Dead, 5, 0), event(api.Dead, 8, 0))
	x := r.s.State()
	if x.Head != 0 || x.Workers[1] != 0 || record(x, 5).State != api.Killed || record(x, 8).State != api.Killed || x.Free[1].Mask != 3 || x.Free[2].Mask != 3 {
		t.Error(x)
	}
	if l := r.s.Look(); len(l.View) != 2 || l.View[1].Mask != 3 || len(l.Ends) != 1 {
		t.Error(l)
	}
	r.play(act(api.Drain, 0), event(api.Dead, 9, 0))
	r.play(act(api.Drain, 1))
	for node := range 4 {
		r.refuses(act(api.Drain, node), api.ErrTwice)
	}
	for node := 3; node >= 0; node-- {
		r.play(act(api.Undrain, node))
		r.refuses(act(api.Undrain, node), api.ErrNone)
	}
	r.ticks(20)
}

// P16.1: who is killed by a drain is told by Ids, running or reserved, in whatever order they came.
func TestDrainByIds(t *testing.T) {
	r := started(t, config(4, 9, 16), gang(40, 1, 1, 9), gang(7, 1, 1, 3), gang(65535, 1, 1, 9), gang(3, 1, 1, 9))
	for k, id := range []int{50, 6, 1, 8} {
		r.play(submit(gang(id, 1, 1, 9)), event(api.Queued, id, 5+k))
	}
	r.play(pick(2), event(api.Headed, 50, 0), event(api.Took, 50, 1))
	r.play(pick(0), event(api.Took, 6, 1))
	r.play(pick(3), event(api.Took, 1, 1))
	var want []api.Event
	for _, id := range []int{1, 3, 6, 7, 40, 50, 65535} {
		want = append(want, event(api.Dead, id, 0))
	}
	r.play(act(api.Drain, 0), want...)
	// 8 waits still.
	r.play(pick(2), event(api.Headed, 8, never), event(api.Idle, 0, 0))
	r.play(act(api.Undrain, 0))
	r.play(pick(2), event(api.Took, 8, 1))
}

// P16.2: what is told of a gang, of its hold, and of what a worker sees, from act to act.
func TestStateAndLook(t *testing.T) {
	r := newRig(t, config(2, 3, 4))
	r.ticks(2)
	j := gang(7, 2, 3, 6)
	r.play(submit(j), event(api.Queued, 7, 1))
	r.play(submit(gang(8, 4, 4, 6)), event(api.Queued, 8, 2))
	r.ticks(1)
	r.play(pick(1), event(api.Headed, 7, 3), event(api.Took, 7, 3))
	slots := []api.Slot{{Mask: 1}, {Mask: 2}, {Mask: 4}}
	x, l := r.s.State(), r.s.Look()
	if g := record(x, 7); g != (api.Record{Job: j, State: api.Reserved, Since: 2, Number: 1, Members: 3, Limit: 6, Worker: 1}) {
		t.Error(g)
	}
	if x.Arrivals != 2 || x.Head != 7 || x.Promise != 3 || x.Workers[1] != 7 || x.Workers[0] != 0 || x.Used[0].Gpus != 3 || x.Free[0].Mask != 8 {
		t.Error(x)
	}
	if !sameHold(x.Holds[0], api.Hold{Id: 7, Until: 6, Slots: slots}) || !sameHold(l.Ends[0], api.Hold{Id: 7, Until: 12, Slots: slots}) {
		t.Error(x, l)
	}
	if len(l.Waits) != 1 || l.Waits[0].Job.Id != 8 || l.Waits[0].Since != 2 || l.Waits[0].Number != 2 || len(l.Running) != 0 || l.Now != 3 || l.Head != 7 || l.Promise != 3 {
		t.Error(l)
	}
	r.ticks(1)
	r.play(pick(1), event(api.Started, 7, 3))
	x, l = r.s.State(), r.s.Look()
	if g := record(x, 7); g != (api.Record{Job: j, State: api.Running, Since: 2, Number: 1, Members: 3, Began: 4, End: 10}) || len(l.Running) != 1 || l.Running[0] != g {
		t.Error(g, l)
	}
	want := api.Hold{Id: 7, Until: 10, Running: true, Slots: slots}
	if !sameHold(x.Holds[0], want) || !sameHold(l.Ends[0], want) || x.Head != 0 || x.Promise != 0 || x.Workers[1] != 0 {
		t.Error(x, l)
	}
	r.play(act(api.Finish, 7), event(api.Ended, 7, 0))
	if g := record(r.s.State(), 7); g != (api.Record{Job: j, State: api.Finished, Since: 2, Number: 1, Began: 4, End: 10}) {
		t.Error(g)
	}
	r.refuses(submit(j), api.ErrTwice)
	if x := r.s.State(); x.Arrivals != 2 {
		t.Error(x)
	}
}
