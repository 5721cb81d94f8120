package sched_test

import (
	"math"
	"slices"
	"testing"

	"ensemble/api"
	"ensemble/sched"
)

// wrong are numbers that are below the least one or above the most, by one and by far.
func wrong(least, most int) []int {
	return []int{least - 1, most + 1, least - 1<<32, most + 1<<32, least + 1<<32, math.MinInt, math.MaxInt}
}

// large is a configuration in which there is of everything as much as there may be.
func large() api.Config {
	c := api.Config{Workers: 4, Timeout: 64, Runtime: 1024, Age: 1024}
	for range 16 {
		var n api.Node
		for range 4 {
			n.Domains = append(n.Domains, api.Domain{Gpus: 16, Cpus: 1024})
		}
		c.Cluster.Nodes = append(c.Cluster.Nodes, n)
	}
	for range 8 {
		c.Queues = append(c.Queues, api.Queue{Quota: api.Units{Gpus: 1 << 20, Cpus: 1 << 20}, Room: 16})
	}
	return c
}

// small is one in which there is of everything as little as there may be.
func small() api.Config {
	return api.Config{
		Cluster: api.Cluster{Nodes: []api.Node{{Domains: []api.Domain{{}}}}},
		Queues:  []api.Queue{{}}, Workers: 1, Runtime: 1, Age: 1,
	}
}

// turns change one part of a configuration each, and tell from what to what it may be.
func turns() []func(c *api.Config, n int) (int, int) {
	lastNode := func(c *api.Config) *api.Node { return &c.Cluster.Nodes[len(c.Cluster.Nodes)-1] }
	return []func(c *api.Config, n int) (int, int){
		func(c *api.Config, n int) (int, int) { c.Workers = n; return 1, 4 },
		func(c *api.Config, n int) (int, int) { c.Timeout = n; return 0, 64 },
		func(c *api.Config, n int) (int, int) { c.Runtime = n; return 1, 1024 },
		func(c *api.Config, n int) (int, int) { c.Age = n; return 1, 1024 },
		func(c *api.Config, n int) (int, int) { c.Queues[0].Room = n; return 0, 16 },
		func(c *api.Config, n int) (int, int) { c.Queues[len(c.Queues)-1].Room = n; return 0, 16 },
		func(c *api.Config, n int) (int, int) { c.Queues[0].Quota.Gpus = n; return 0, 1 << 20 },
		func(c *api.Config, n int) (int, int) { c.Queues[0].Quota.Cpus = n; return 0, 1 << 20 },
		func(c *api.Config, n int) (int, int) { c.Queues[len(c.Queues)-1].Quota.Cpus = n; return 0, 1 << 20 },
		func(c *api.Config, n int) (int, int) { c.Cluster.Nodes[0].Domains[0].Gpus = n; return 0, 16 },
		func(c *api.Config, n int) (int, int) { lastNode(c).Domains[0].Cpus = n; return 0, 1024 },
		func(c *api.Config, n int) (int, int) { lastNode(c).Domains[0].Gpus = n; return 0, 16 },
		func(c *api.Config, n int) (int, int) {
			if 0 <= n && n < 99 {
				c.Queues = make([]api.Queue, n)
			}
			return 1, 8
		},
		func(c *api.Config, n int) (int, int) {
			if 0 <= n && n < 99 {
				c.Cluster.Nodes = slices.Repeat(c.Cluster.Nodes[:1], n)
			}
			return 1, 16
		},
		func(c *api.Config, n int) (int, int) {
			if 0 <= n && n < 99 {
				lastNode(c).Domains = slices.Repeat(lastNode(c).Domains[:1], n)
			}
			return 1, 4
		},
	}
}

// refusesConfig asks that there is no system of a configuration.
func refusesConfig(t *testing.T, c api.Config) {
	t.Helper()
	if s, e := sched.New(c); s != nil || e != api.ErrRange {
		t.Error(c, s, e)
	}
}

// P16.1: each part of a configuration is at its edges, and one below and one above them, the others being small or large.
func TestNewEdges(t *testing.T) {
	for k, turn := range turns() {
		for _, base := range []func() api.Config{small, large} {
			c := base()
			least, most := turn(&c, 1)
			for _, n := range []int{least, most} {
				c = base()
				turn(&c, n)
				r := newRig(t, c)
				for id := range 3 {
					r.do(submit(api.Job{Id: 1 + id, Runtime: 1, Shape: api.Shape{Cpus: 1, Min: 1, Max: 2}}))
				}
				for _, a := range []api.Act{pick(0), pick(0), pick(c.Workers - 1), pick(c.Workers), tick(), pick(0), act(api.Drain, 0), pick(0)} {
					r.do(a)
				}
			}
			// How many there are of something is made no more than one too many.
			over := wrong(least, most)
			if k >= len(turns())-3 {
				over = over[:2]
			}
			for _, n := range over {
				c = base()
				turn(&c, n)
				refusesConfig(t, c)
			}
		}
	}
	refusesConfig(t, api.Config{})
	c := large()
	c.Cluster, c.Queues[7].Room, c.Workers = api.Cluster{}, 17, 5
	refusesConfig(t, c)
}

// P16.2: a new system has nobody, and all is free.
func TestNewState(t *testing.T) {
	c := config(3, 2, 4, 2)
	c.Cluster.Nodes[1].Domains = append(c.Cluster.Nodes[1].Domains, api.Domain{Gpus: 16, Cpus: 9})
	c.Queues[1].Quota = api.Units{Gpus: 3, Cpus: 5}
	s, e := sched.New(c)
	if e != api.OK {
		t.Fatal(e)
	}
	free := []api.Free{{Mask: 15, Cpus: 64}, {Spot: api.Spot{Node: 1}, Mask: 3, Cpus: 64}, {Spot: api.Spot{Node: 1, Domain: 1}, Mask: 1<<16 - 1, Cpus: 9}}
	if x := s.State(); !sameState(x, api.State{Workers: []int{0, 0, 0}, Drained: []bool{false, false}, Free: free, Used: make([]api.Units, 2)}) {
		t.Error(x)
	}
	if l := s.Look(); !sameLook(l, api.Look{Timeout: 2, View: free, Left: []api.Units{{Gpus: 1 << 20, Cpus: 1 << 20}, {Gpus: 3, Cpus: 5}}}) {
		t.Error(l)
	}
}

// P16.1: a job's edges may be: Ids, Prios, Runtimes, and shapes.
func TestJobEdges(t *testing.T) {
	for _, most := range []int{1, 1024} {
		c := config(1, 2, 16, 16)
		c.Runtime = most
		for k := range c.Cluster.Nodes {
			c.Cluster.Nodes[k].Domains[0].Cpus = 1024
		}
		r := newRig(t, c)
		n := 0
		for _, j := range []api.Job{
			{Id: 1, Runtime: 1, Shape: api.Shape{Gpus: 1, Min: 1, Max: 1}}, {Id: 65535, Prio: 15, Runtime: most, Shape: api.Shape{Cpus: 1, Min: 1, Max: 16}},
			{Id: 2, Queue: 1, Runtime: most, Shape: api.Shape{Gpus: 16, Cpus: 1024, Min: 2, Max: 2}}, {Id: 65534, Queue: 1, Prio: 15, Runtime: 1, Shape: api.Shape{Gpus: 1, Cpus: 1, Min: 16, Max: 16}},
		} {
			n++
			r.play(submit(j), event(api.Queued, j.Id, n))
		}
	}
}

// wrongJobs are jobs of which one part, or several, may not be, in a system whose gangs run for 20 ticks at most; their queue is there.
func wrongJobs() []api.Job {
	var l []api.Job
	add := func(least, most int, turn func(j *api.Job, n int)) {
		for _, n := range wrong(least, most) {
			j := gang(9, 1, 2, 5)
			turn(&j, n)
			l = append(l, j)
		}
	}
	add(1, 65535, func(j *api.Job, n int) { j.Id = n })
	add(0, 15, func(j *api.Job, n int) { j.Prio = n })
	add(1, 20, func(j *api.Job, n int) { j.Runtime = n })
	add(0, 16, func(j *api.Job, n int) { j.Shape.Gpus = n })
	add(0, 1024, func(j *api.Job, n int) { j.Shape.Cpus = n })
	add(1, 2, func(j *api.Job, n int) { j.Shape.Min = n })
	add(1, 16, func(j *api.Job, n int) { j.Shape.Max = n })
	add(0, 0, func(j *api.Job, n int) { j.Shape = api.Shape{} })
	add(0, 15, func(j *api.Job, n int) { j.Shape.Gpus, j.Prio = 0, n })
	return l
}

// P16.1: the parts of a job that are wrong are told in the order in which the errors stand, whichever come together.
func TestSubmitErrors(t *testing.T) {
	all, few := api.Units{Gpus: 99, Cpus: 99}, api.Units{Gpus: 2, Cpus: 99}
	c := config(1, 2, 4, 4)
	c.Queues = []api.Queue{{Quota: all, Room: 2}, {Quota: few, Room: 2}, {Quota: all}, {Quota: few}}
	r := newRig(t, c)
	r.play(submit(gang(1, 1, 1, 5)), event(api.Queued, 1, 1))
	r.play(act(api.Cancel, 1), event(api.Gone, 1, 0))
	errors := []api.Errno{api.ErrRange, api.ErrNone, api.ErrTwice, api.ErrFit, api.ErrQuota, api.ErrFull}
	for faults := 1; faults < 1<<len(errors); faults++ {
		has := func(e api.Errno) bool { return faults>>slices.Index(errors, e)&1 == 1 }
		jobs := []api.Job{gang(9, 3, 4, 5)}
		if has(api.ErrRange) {
			jobs = wrongJobs()
		}
		for _, j := range jobs {
			if has(api.ErrTwice) && j.Id == 9 {
				j.Id = 1
			}
			if has(api.ErrFit) && !has(api.ErrRange) {
				j.Shape.Min, j.Shape.Max = 9, 9
			}
			if has(api.ErrQuota) {
				j.Queue += 1
			}
			if has(api.ErrFull) {
				j.Queue += 2
			}
			queues := []int{j.Queue}
			if has(api.ErrNone) {
				queues = append(wrongNumbers(), 4)
			}
			first := errors[slices.IndexFunc(errors, has)]
			for _, j.Queue = range queues {
				r.refuses(submit(j), first)
			}
		}
	}
	// None of all these was taken.
	r.play(submit(gang(9, 3, 4, 5)), event(api.Queued, 9, 2))
}

// P16.1: whether a gang fits is asked of the empty cluster, spot by spot, and of its quota, for its least members, whatever is held or drained.
func TestSubmitFits(t *testing.T) {
	c := config(1, 2, 3, 3)
	c.Queues[0].Quota, c.Queues[1].Quota = api.Units{Gpus: 4, Cpus: 20}, api.Units{Gpus: 6, Cpus: 6 * 64}
	r := newRig(t, c)
	taken := 0
	submits := func(queue, gpus, cpus, least int, e api.Errno) {
		t.Helper()
		a := submit(api.Job{Id: 500 - taken, Queue: queue, Runtime: 20, Shape: api.Shape{Gpus: gpus, Cpus: cpus, Min: least, Max: 16}})
		if e != api.OK {
			r.refuses(a, e)
			return
		}
		taken++
		r.play(a, event(api.Queued, a.Job.Id, taken))
	}
	all := func() {
		t.Helper()
		submits(1, 3, 64, 2, api.OK)
		submits(1, 2, 0, 2, api.OK)
		submits(1, 2, 0, 3, api.ErrFit)
		submits(1, 1, 0, 6, api.OK)
		submits(1, 1, 0, 7, api.ErrFit)
		submits(1, 4, 0, 1, api.ErrFit)
		submits(1, 0, 65, 1, api.ErrFit)
		submits(1, 0, 64, 3, api.ErrFit)
		submits(0, 1, 5, 4, api.OK)
		submits(0, 1, 5, 5, api.ErrQuota)
		submits(0, 1, 6, 4, api.ErrQuota)
		submits(0, 0, 10, 2, api.OK)
		submits(0, 0, 7, 3, api.ErrQuota)
		submits(0, 2, 0, 2, api.OK)
		submits(0, 1, 0, 5, api.ErrQuota)
	}
	all()
	for range 5 {
		r.do(pick(0))
	}
	if x := r.s.State(); len(x.Holds) == 0 {
		t.Error(x)
	}
	all()
	r.do(act(api.Drain, 0))
	r.do(act(api.Drain, 1))
	all()
}

// P16.1: a queue's last room: who is reserved is in it still, who runs or is over isn't.
func TestRoom(t *testing.T) {
	c := config(2, 1, 4)
	c.Queues[0].Room, c.Queues[1].Room = 2, 0
	r := newRig(t, c)
	full := func(id int) { t.Helper(); r.refuses(submit(gang(id, 1, 1, 9)), api.ErrFull) }
	r.play(submit(gang(1, 2, 2, 9)), event(api.Queued, 1, 1))
	r.play(submit(gang(2, 2, 2, 9)), event(api.Queued, 2, 2))
	full(3)
	j := gang(3, 1, 1, 9)
	j.Queue = 1
	r.refuses(submit(j), api.ErrFull)
	// Reserved.
	r.play(pick(0), event(api.Headed, 1, 0), event(api.Took, 1, 2))
	full(3)
	// Expired, and reserved again.
	r.ticks(2)
	r.play(pick(0), event(api.Expired, 1, 0), event(api.Took, 1, 2))
	full(3)
	r.play(pick(0), event(api.Started, 1, 2))
	r.play(submit(gang(3, 1, 1, 9)), event(api.Queued, 3, 3))
	full(4)
	// Killed while it is reserved.
	r.play(pick(0), event(api.Headed, 2, 2), event(api.Took, 2, 2))
	r.play(act(api.Drain, 0), event(api.Dead, 1, 0), event(api.Dead, 2, 0))
	r.play(submit(gang(4, 1, 1, 9)), event(api.Queued, 4, 4))
	full(5)
	// Cancelled while it waits, and while it is reserved.
	r.play(act(api.Cancel, 4), event(api.Gone, 4, 0))
	r.play(act(api.Undrain, 0))
	r.play(submit(gang(5, 1, 1, 9)), event(api.Queued, 5, 5))
	full(6)
	r.play(pick(1), event(api.Headed, 3, 2), event(api.Took, 3, 1))
	r.play(act(api.Cancel, 3), event(api.Gone, 3, 0))
	r.play(submit(gang(6, 1, 1, 9)), event(api.Queued, 6, 6))
	full(7)
}

// P16.1: a book's last place, and none behind it, though all are over; what is wrong ahead of that is told first.
func TestBookIsFull(t *testing.T) {
	c := config(1, 2, 4)
	c.Queues[1].Room = 0
	r := newRig(t, c)
	for id := 1; id <= 4095; id++ {
		for _, a := range []api.Act{submit(gang(id, 1, 1, 9)), act(api.Cancel, id)} {
			is, want := r.s.Do(a), r.m.do(a)
			if is.Err != api.OK || !slices.Equal(is.Events, want.Events) {
				t.Fatal(a, is)
			}
		}
	}
	r.alike("4095 gangs")
	r.play(submit(gang(65535, 4, 4, 9)), event(api.Queued, 65535, 4096))
	r.refuses(submit(gang(5000, 1, 1, 9)), api.ErrFull)
	r.play(pick(0), event(api.Headed, 65535, 0), event(api.Took, 65535, 4))
	r.play(pick(0), event(api.Started, 65535, 4))
	r.refuses(submit(gang(5000, 1, 1, 9)), api.ErrFull)
	r.refuses(submit(gang(4095, 1, 1, 9)), api.ErrTwice)
	r.refuses(submit(gang(5000, 5, 5, 9)), api.ErrFit)
	r.refuses(submit(gang(5000, 1, 1, 21)), api.ErrRange)
	r.play(act(api.Finish, 65535), event(api.Ended, 65535, 0))
	r.refuses(submit(gang(5000, 1, 1, 9)), api.ErrFull)
}

// P16.1: of any other Kind there is no act, whatever else it says.
func TestOtherKinds(t *testing.T) {
	r := newRig(t, config(2, 2, 4))
	r.play(submit(gang(5, 2, 3, 9)), event(api.Queued, 5, 1))
	r.play(pick(0), event(api.Headed, 5, 0), event(api.Took, 5, 3))
	for _, kind := range append(wrongNumbers(), 8, 9, 11, 255, 256, 256+6, 1<<32+5) {
		for _, n := range []int{0, 5, -1} {
			r.refuses(api.Act{Kind: kind, N: n, Job: gang(6, 1, 1, 9)}, api.ErrRange)
		}
	}
}

// P16.1: a gang, a node and a worker that there aren't; and what an act's Kind doesn't ask for plays no part.
func TestNobodyOfThatNumber(t *testing.T) {
	r := newRig(t, config(2, 2, 4, 4, 4))
	r.play(submit(gang(5, 2, 4, 9)), event(api.Queued, 5, 1))
	r.play(pick(0), event(api.Headed, 5, 0), event(api.Took, 5, 4))
	r.play(pick(0), event(api.Started, 5, 4))
	for _, n := range append(wrongNumbers(), 0, 4, 6, 5+1<<32) {
		for _, kind := range []int{api.Cancel, api.Finish, api.Shrink} {
			r.refuses(act(kind, n), api.ErrNone)
		}
	}
	for _, n := range append(wrongNumbers(), 3, 4, 1<<32) {
		r.refuses(act(api.Drain, n), api.ErrRange)
		r.refuses(act(api.Undrain, n), api.ErrRange)
	}
	for _, n := range append(wrongNumbers(), 2, 3, 1<<32) {
		r.refuses(pick(n), api.ErrNone)
	}
	odd := api.Job{Id: -1, Queue: 9, Prio: 99}
	r.play(api.Act{Kind: api.Tick, N: -7, Job: odd})
	r.play(api.Act{Kind: api.Pick, N: 1, Job: odd}, event(api.Idle, 0, 0))
	r.play(api.Act{Kind: api.Submit, N: math.MinInt, Job: gang(6, 1, 1, 9)}, event(api.Queued, 6, 2))
	r.play(api.Act{Kind: api.Shrink, N: 5, Job: odd}, event(api.Shrunk, 5, 3))
	r.play(api.Act{Kind: api.Drain, N: 2, Job: odd})
	r.play(api.Act{Kind: api.Undrain, N: 2, Job: odd})
	r.play(api.Act{Kind: api.Cancel, N: 6, Job: odd}, event(api.Gone, 6, 0))
	r.play(api.Act{Kind: api.Finish, N: 5, Job: odd}, event(api.Ended, 5, 0))
}
