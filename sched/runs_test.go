package sched_test

import (
	"slices"
	"testing"
	"time"

	"ensemble/api"
	"ensemble/sched"
)

// draws are numbers that look as if drawn, and are the same in each run.
type draws uint64

func (d *draws) below(n int) int {
	x := uint64(*d)
	x ^= x << 13
	x ^= x >> 7
	x ^= x << 17
	*d = draws(x)
	return int(x >> 1 % uint64(n))
}

// of is one of these numbers.
func (d *draws) of(numbers ...int) int { return numbers[d.below(len(numbers))] }

// config is drawn: a few nodes and queues, so that gangs are in each other's way.
func (d *draws) config() api.Config {
	c := api.Config{Workers: 1 + d.below(4), Timeout: d.of(0, 1, 2, 3, 6, 64), Runtime: d.of(1, 5, 12, 30, 1024), Age: d.of(1, 3, 9, 1024)}
	for range 1 + d.below(4) {
		var n api.Node
		for range 1 + d.below(3) {
			n.Domains = append(n.Domains, api.Domain{Gpus: d.below(6), Cpus: d.below(12)})
		}
		c.Cluster.Nodes = append(c.Cluster.Nodes, n)
	}
	for range 1 + d.below(d.of(1, 3, 8)) {
		q := api.Queue{Quota: api.Units{Gpus: d.of(1<<20, 2+d.below(12)), Cpus: d.of(1<<20, 2+d.below(30))}, Room: d.of(1, 3, 6, 16)}
		c.Queues = append(c.Queues, q)
	}
	return c
}

// job is drawn; most may be.
func (d *draws) job(c api.Config, id int) api.Job {
	least := 1 + d.below(1+d.below(6))
	j := api.Job{Id: id, Queue: d.below(len(c.Queues)), Prio: d.of(0, 0, 1, d.below(16)), Runtime: 1 + d.below(min(c.Runtime, 25))}
	j.Shape = api.Shape{Gpus: d.below(3), Cpus: d.below(4), Min: least, Max: min(16, least+d.below(6))}
	switch d.below(40) {
	case 0:
		j.Queue = d.of(-1, len(c.Queues), 1<<32)
	case 1:
		j.Runtime = d.of(0, c.Runtime, c.Runtime+1)
	case 2:
		j.Shape.Min = d.of(0, 16, 17)
	case 3:
		j.Prio = d.of(-1, 16)
	}
	return j
}

// act is drawn; the Ids that come are no rising ones, and some come again.
func (d *draws) act(c api.Config, s api.State) api.Act {
	some := func() int {
		if n := len(s.Gangs); n > 0 && d.below(12) > 0 {
			return s.Gangs[max(0, n-1-d.below(1+d.below(20)))].Job.Id
		}
		return d.below(400)
	}
	switch k := d.below(100); {
	case k < 22:
		id := 1 + s.Arrivals*7919%65535
		if d.below(20) == 0 {
			id = some()
		}
		return submit(d.job(c, id))
	case k < 40:
		return tick()
	case k < 82:
		return pick(d.below(c.Workers + d.below(2)*d.below(2)))
	case k < 87:
		return act(d.of(api.Drain, api.Undrain, api.Undrain), d.below(len(c.Cluster.Nodes))-d.below(2)*d.below(2))
	case k < 99:
		return act(d.of(api.Finish, api.Shrink, api.Shrink, api.Cancel), some())
	}
	return act(d.of(-1, 8, 99), some())
}

// beside is an act that may come beside a head: a step, someone who comes besides, or one who has to do with less.
func (d *draws) beside(c api.Config, s api.State) api.Act {
	switch d.below(5) {
	case 0:
		return submit(d.job(c, 1+s.Arrivals*7919%65535))
	case 1:
		return act(api.Shrink, s.Gangs[d.below(len(s.Gangs))].Job.Id)
	}
	return pick(d.below(c.Workers))
}

// P16.1 to P16.4: long runs of acts of all Kinds, with several workers, in which the system is as its model, and all that has to hold behind each act does.
func TestDrawnRuns(t *testing.T) {
	d := draws(0x9b05688c2b3e6c1f)
	told, refusals := map[int]int{}, map[api.Errno]int{}
	for range 150 {
		c := d.config()
		r := newRig(t, c)
		for range 400 {
			is := r.do(d.act(c, r.s.State()))
			for _, x := range is.Events {
				told[x.Kind]++
			}
			refusals[is.Err]++
		}
	}
	for kind := api.Queued; kind <= api.Idle; kind++ {
		if told[kind] < 100 {
			t.Error(kind, told)
		}
	}
	for _, e := range []api.Errno{api.ErrRange, api.ErrNone, api.ErrTwice, api.ErrFit, api.ErrQuota, api.ErrFull, api.ErrState} {
		if refusals[e] < 20 {
			t.Error(e, refusals)
		}
	}
}

// P16.4: a head that isn't taken sooner is taken at the tick that it was promised, by whichever worker steps first that holds nothing, whatever was submitted, filled or grown meanwhile.
func TestHeadIsTakenAtItsPromise(t *testing.T) {
	d := draws(0x1f83d9abfb41bd6b)
	later, done := 0, map[int]int{}
	for range 3000 {
		c := d.config()
		r := newRig(t, c)
		for range 25 {
			r.do(d.act(c, r.s.State()))
		}
		for x := r.s.State(); x.Head != 0 && x.Promise < x.Now+60; x = r.s.State() {
			for range d.below(6) {
				for _, y := range r.do(d.beside(c, r.s.State())).Events {
					done[y.Kind]++
				}
			}
			is := r.s.State()
			if is.Head != x.Head || record(is, x.Head).State != api.Waiting {
				break
			}
			if is.Now < is.Promise {
				r.do(tick())
				continue
			}
			later++
			worker := d.below(c.Workers)
			taken := r.do(pick(worker)).Events
			if taken[len(taken)-1].Kind == api.Started {
				taken = r.do(pick(worker)).Events
			}
			if y := taken[len(taken)-1]; y.Kind != api.Took || y.Id != is.Head {
				t.Fatal(is, taken)
			}
			break
		}
	}
	if later < 50 || done[api.Took] < 300 || done[api.Grown] < 100 {
		t.Error(later, done)
	}
}

// P16.1: the same acts lead two systems to the same, whatever is asked of the one, and though they go side by side with another one.
func TestSameActsTwice(t *testing.T) {
	d := draws(0x5be0cd19137e2179)
	for range 40 {
		c := d.config()
		a, _ := sched.New(c)
		b, _ := sched.New(c)
		other, _ := sched.New(d.config())
		for range 200 {
			x := d.act(c, a.State())
			other.Do(x)
			a.Look()
			if is, want := a.Do(x), b.Do(x); is.Err != want.Err || !slices.Equal(is.Events, want.Events) {
				t.Fatal(x, is, want)
			}
		}
		if !sameState(a.State(), b.State()) || !sameLook(a.Look(), b.Look()) {
			t.Fatal(a.State(), b.State())
		}
	}
}

// spoil writes into all lists of a state, and of a look, and behind their ends.
func spoil(s api.State, l api.Look) {
	for k := range s.Workers {
		s.Workers[k] = 77
	}
	for k := range s.Drained {
		s.Drained[k] = !s.Drained[k]
	}
	for _, records := range [][]api.Record{s.Gangs, l.Running} {
		for k := range records {
			records[k].State, records[k].Members, records[k].Job.Id = 6, 99, 77
		}
		_ = append(records, api.Record{Members: 99})
	}
	for _, holds := range [][]api.Hold{s.Holds, l.Ends} {
		for k := range holds {
			for i := range holds[k].Slots {
				holds[k].Slots[i] = api.Slot{Mask: 1 << 40}
			}
			_ = append(holds[k].Slots, api.Slot{Mask: 1 << 41})
			holds[k].Id, holds[k].Until = 77, -1
		}
		_ = append(holds, api.Hold{Id: 78})
	}
	for _, free := range [][]api.Free{s.Free, l.View} {
		for k := range free {
			free[k].Mask, free[k].Cpus = 1<<63, -9
		}
		_ = append(free, api.Free{Cpus: 77})
	}
	for _, units := range [][]api.Units{s.Used, l.Left} {
		for k := range units {
			units[k].Gpus = -77
		}
		_ = append(units, api.Units{Cpus: 77})
	}
	for k := range l.Waits {
		l.Waits[k].Job, l.Waits[k].Since = api.Job{Id: 77}, 99
	}
	_ = append(l.Waits, api.Wait{Number: 77})
}

// P16.2: what is told is new memory: whoever writes into it changes neither the system nor another answer.
func TestAnswersAreNew(t *testing.T) {
	d := draws(0x243f6a8885a308d3)
	for range 40 {
		c := d.config()
		r := newRig(t, c)
		for range 120 {
			a := d.act(c, r.s.State())
			is, want := r.s.Do(a), r.m.do(a)
			if is.Err != want.Err || !slices.Equal(is.Events, want.Events) {
				t.Fatal(a, is, want)
			}
			state, look := r.s.State(), r.s.Look()
			spoil(r.s.State(), r.s.Look())
			for k := range is.Events {
				is.Events[k].Id = 77
			}
			_ = append(is.Events, event(77, 77, 77))
			if !sameState(state, r.m.state()) || !sameLook(look, r.m.look()) {
				t.Fatal(a)
			}
			r.alike(a)
		}
	}
}

// P16.2: no two lists of one answer share memory: what is put behind one hold's slots isn't another one's.
func TestListsOfOneAnswer(t *testing.T) {
	r := started(t, config(1, 2, 8), gang(1, 2, 3, 9), gang(2, 1, 2, 9), gang(3, 1, 3, 9))
	for range 2 {
		s, l := r.s.State(), r.s.Look()
		for _, holds := range [][]api.Hold{s.Holds, l.Ends} {
			for k := range holds {
				_ = append(holds[k].Slots, api.Slot{Mask: 1 << 40}, api.Slot{Mask: 1 << 41})
			}
		}
		_, _, _ = append(s.Free, api.Free{Cpus: 77}), append(l.View, api.Free{Cpus: 77}), append(l.Left, api.Units{Gpus: 77})
		if !sameState(s, r.m.state()) || !sameLook(l, r.m.look()) {
			t.Error(s, l)
		}
		r.do(act(api.Shrink, 1))
	}
}

// roomy is a configuration whose lists have room behind their ends, with something in it, and a closure that tells whether all of it is as it was.
func roomy(c api.Config) (api.Config, func() bool) {
	c.Cluster.Nodes = append(slices.Clone(c.Cluster.Nodes), api.Node{})[:len(c.Cluster.Nodes)]
	for k, n := range c.Cluster.Nodes {
		c.Cluster.Nodes[k].Domains = append(slices.Clone(n.Domains), api.Domain{Gpus: 7})[:len(n.Domains)]
	}
	c.Queues = append(slices.Clone(c.Queues), api.Queue{Room: 7})[:len(c.Queues)]
	whole := func() ([]api.Queue, []api.Domain) {
		var domains []api.Domain
		for _, n := range c.Cluster.Nodes[:cap(c.Cluster.Nodes)] {
			domains = append(domains, n.Domains[:cap(n.Domains)]...)
		}
		return slices.Clone(c.Queues[:cap(c.Queues)]), domains
	}
	queues, domains := whole()
	return c, func() bool {
		q, d := whole()
		return slices.Equal(q, queues) && slices.Equal(d, domains)
	}
}

// P16.1: a configuration is neither changed nor kept: what is written into its lists later plays no part.
func TestConfigIsNotKept(t *testing.T) {
	d := draws(0x13198a2e03707344)
	for range 40 {
		c := d.config()
		in, same := roomy(c)
		s, e := sched.New(in)
		if e != api.OK {
			t.Fatal(e)
		}
		r := &rig{t, s, newModel(c)}
		for range 60 {
			r.do(d.act(c, r.s.State()))
		}
		if !same() {
			t.Fatal(in)
		}
		for k := range in.Queues {
			in.Queues[k] = api.Queue{}
		}
		for _, n := range in.Cluster.Nodes {
			for k := range n.Domains {
				n.Domains[k] = api.Domain{Gpus: 1}
			}
		}
		clear(in.Cluster.Nodes)
		for range 60 {
			r.do(d.act(c, r.s.State()))
		}
	}
}

// toTheLast brings a system that nobody is in so far ahead of the last tick; false, if this would take minutes.
func toTheLast(t *testing.T, s *sched.System, ahead int) bool {
	t.Helper()
	begun, probe := time.Now(), 1<<22
	for k := range last - ahead {
		if r := s.Do(tick()); r.Err != api.OK || len(r.Events) != 0 {
			t.Fatal(k, r)
		}
		if k == probe && time.Since(begun) > 500*time.Millisecond {
			return false
		}
	}
	return true
}

// P16.1: no tick is behind 2^30. Whoever ends then is ended; whoever would end later runs on, and a head behind it is promised Never.
func TestLastTick(t *testing.T) {
	t.Parallel()
	if testing.Short() {
		t.Skip("2^30 ticks")
	}
	r := newRig(t, config(2, 3, 4, 2))
	if !toTheLast(t, r.s, 6) {
		t.Skip("2^30 ticks take too long here")
	}
	r.m.now = last - 6
	r.alike("ticks")
	jobs := []api.Job{gang(1, 1, 1, 5), gang(2, 1, 1, 6), gang(3, 1, 1, 7), gang(4, 1, 1, 20)}
	for k, j := range jobs {
		r.play(submit(j), event(api.Queued, j.Id, k+1))
		r.play(pick(0), event(api.Headed, j.Id, last-6), event(api.Took, j.Id, 1))
		r.play(pick(0), event(api.Started, j.Id, 1))
	}
	r.play(submit(gang(5, 4, 4, 9)), event(api.Queued, 5, 5))
	r.play(pick(0), event(api.Headed, 5, last), event(api.Idle, 0, 0))
	r.play(act(api.Cancel, 5), event(api.Gone, 5, 0))
	r.play(submit(gang(6, 5, 5, 9)), event(api.Queued, 6, 6))
	r.play(pick(0), event(api.Headed, 6, never), event(api.Idle, 0, 0))
	r.ticks(4)
	r.play(tick(), event(api.Dead, 1, 1))
	r.play(tick(), event(api.Dead, 2, 1))
	r.refuses(tick(), api.ErrLate)
	r.play(submit(gang(7, 1, 3, 9)), event(api.Queued, 7, 7))
	r.play(pick(0), event(api.Took, 7, 3))
	r.refuses(tick(), api.ErrLate)
	r.play(pick(1), event(api.Idle, 0, 0))
	r.play(pick(0), event(api.Started, 7, 3))
	d := draws(0xa4093822299f31d0)
	for range 300 {
		r.do(d.act(r.m.c, r.s.State()))
	}
	if x := r.s.State(); x.Now != last {
		t.Error(x)
	}
}
