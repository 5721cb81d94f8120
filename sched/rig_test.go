package sched_test

import (
	"math"
	"slices"
	"testing"

	"ensemble/api"
	"ensemble/promise"
	"ensemble/sched"
)

// config is one of nodes of a domain each, with so many Gpus and as many Cpus as any gang of a test needs; of two queues that may use all of it.
func config(workers, timeout int, gpus ...int) api.Config {
	all := api.Units{Gpus: 1 << 20, Cpus: 1 << 20}
	c := api.Config{Workers: workers, Timeout: timeout, Runtime: 20, Age: 5, Queues: []api.Queue{{Quota: all, Room: 16}, {Quota: all, Room: 16}}}
	for _, n := range gpus {
		c.Cluster.Nodes = append(c.Cluster.Nodes, api.Node{Domains: []api.Domain{{Gpus: n, Cpus: 64}}})
	}
	return c
}

// gang is a job of least to most members of a Gpu each, for queue 0.
func gang(id, least, most, runtime int) api.Job {
	return api.Job{Id: id, Runtime: runtime, Shape: api.Shape{Gpus: 1, Min: least, Max: most}}
}

func submit(j api.Job) api.Act { return api.Act{Kind: api.Submit, Job: j} }

func act(kind, n int) api.Act { return api.Act{Kind: kind, N: n} }

func pick(n int) api.Act { return act(api.Pick, n) }

func tick() api.Act { return act(api.Tick, 0) }

// rig is a system, and a model of it; each act is done to both.
type rig struct {
	*testing.T
	s *sched.System
	m *model
}

func newRig(t *testing.T, c api.Config) *rig {
	t.Helper()
	s, e := sched.New(c)
	if e != api.OK || s == nil {
		t.Fatal(c, e)
	}
	r := &rig{t, s, newModel(c)}
	r.alike("new")
	return r
}

// alike holds the system to its model.
func (r *rig) alike(what any) {
	r.Helper()
	if is, want := r.s.State(), r.m.state(); !sameState(is, want) {
		r.Fatalf("%v: state\n%v, want\n%v", what, is, want)
	}
	if is, want := r.s.Look(), r.m.look(); !sameLook(is, want) {
		r.Fatalf("%v: look\n%v, want\n%v", what, is, want)
	}
}

// do does an act, and asks all that has to hold behind any act.
func (r *rig) do(a api.Act) api.Reply {
	r.Helper()
	state, look := r.s.State(), r.s.Look()
	is, want := r.s.Do(a), r.m.do(a)
	if is.Err != want.Err || !slices.Equal(is.Events, want.Events) {
		r.Fatalf("%v: %v, want %v", a, is, want)
	}
	r.alike(a)
	after := r.s.State()
	if is.Err != api.OK && (len(is.Events) > 0 || !sameState(after, state) || !sameLook(r.s.Look(), look)) {
		r.Fatalf("%v was refused, and changed %v to %v", a, state, after)
	}
	r.whole(after)
	r.lives(after)
	r.head(a, is, state, after)
	return is
}

// play is an act that tells just these events.
func (r *rig) play(a api.Act, want ...api.Event) {
	r.Helper()
	if is := r.do(a); is.Err != api.OK || !slices.Equal(is.Events, want) {
		r.Fatalf("%v: %v, want %v", a, is, want)
	}
}

// refuses is an act that is refused with just this error.
func (r *rig) refuses(a api.Act, e api.Errno) {
	r.Helper()
	if is := r.do(a); is.Err != e {
		r.Fatalf("%v: %v, want %v", a, is, e)
	}
}

// ticks are ticks at which nobody ends.
func (r *rig) ticks(n int) {
	r.Helper()
	for range n {
		r.play(tick())
	}
}

// whole asks whether what is free and what holds have are all units, none twice, and each queue uses what its holds have, and no more than its quota.
func (r *rig) whole(s api.State) {
	r.Helper()
	used := make([]api.Units, len(r.m.c.Queues))
	all := slices.Clone(s.Free)
	for _, h := range s.Holds {
		for _, slot := range h.Slots {
			k := slices.IndexFunc(all, func(f api.Free) bool { return f.Spot == slot.Spot })
			if k < 0 || all[k].Mask&slot.Mask != 0 || slot.Cpus < 0 || all[k].Cpus < 0 {
				r.Fatal(s)
			}
			all[k].Mask |= slot.Mask
			all[k].Cpus += slot.Cpus
		}
		u := need(h.Slots)
		used[h.Queue].Gpus += u.Gpus
		used[h.Queue].Cpus += u.Cpus
	}
	if !slices.Equal(all, empty(r.m.c)) || !slices.Equal(used, s.Used) {
		r.Fatal(s)
	}
	for k, q := range r.m.c.Queues {
		if used[k].Gpus > q.Quota.Gpus || used[k].Cpus > q.Quota.Cpus {
			r.Fatal(s)
		}
	}
}

// lives asks whether each gang has no members and no hold, or from Min to Max and one of as many slots; whether one that runs has an End to come; and whether workers hold just those that are reserved.
func (r *rig) lives(s api.State) {
	r.Helper()
	held := 0
	for _, id := range s.Workers {
		if id != 0 {
			held++
		}
	}
	for _, g := range s.Gangs {
		k := slices.IndexFunc(s.Holds, func(h api.Hold) bool { return h.Id == g.Job.Id })
		has := g.State == api.Reserved || g.State == api.Running
		if has != (k >= 0) {
			r.Fatal(g, s)
		}
		if !has {
			if g.Members != 0 || g.Limit != 0 || g.Worker != 0 || g.State == api.Waiting && g.End != 0 {
				r.Fatal(g, s)
			}
			continue
		}
		h := s.Holds[k]
		if g.Members < g.Job.Shape.Min || g.Members > g.Job.Shape.Max || len(h.Slots) != g.Members || h.Running != (g.State == api.Running) {
			r.Fatal(g, s)
		}
		if h.Running && (g.End <= s.Now || g.End != g.Began+g.Job.Runtime || h.Until != g.End || g.Limit != 0) {
			r.Fatal(g, s)
		}
		if !h.Running {
			held--
			if s.Workers[g.Worker] != g.Job.Id || h.Until != g.Limit || g.Limit > s.Now+r.m.c.Timeout {
				r.Fatal(g, s)
			}
		}
	}
	if held != 0 {
		r.Fatal(s)
	}
}

// record is the gang of an Id, as it stands in a state.
func record(s api.State, id int) api.Record {
	k := slices.IndexFunc(s.Gangs, func(g api.Record) bool { return g.Job.Id == id })
	if k < 0 {
		return api.Record{}
	}
	return s.Gangs[k]
}

func late(s api.State) bool {
	return slices.ContainsFunc(s.Holds, func(h api.Hold) bool { return !h.Running && h.Until < s.Now })
}

// head asks what holds of the head and of its promise, and of reservations that are late.
func (r *rig) head(a api.Act, is api.Reply, before, after api.State) {
	r.Helper()
	tells := func(kind, id int) bool {
		return slices.ContainsFunc(is.Events, func(x api.Event) bool { return x.Kind == kind && x.Id == id })
	}
	picked := a.Kind == api.Pick && is.Err == api.OK
	if picked && late(after) {
		r.Fatal(a, after)
	}
	if before.Head != 0 && after.Head != before.Head && !tells(api.Started, before.Head) && !tells(api.Dead, before.Head) && !tells(api.Gone, before.Head) {
		r.Fatal(a, is, before, after)
	}
	anew := is.Err == api.OK && (a.Kind == api.Drain || a.Kind == api.Undrain) || tells(api.Expired, before.Head) || tells(api.Headed, after.Head)
	if after.Head == before.Head && after.Promise != before.Promise && !anew {
		r.Fatal(a, is, before, after)
	}
	if after.Head == 0 && after.Promise != 0 {
		r.Fatal(a, after)
	}
	// Due is a head that waits at its promise, or behind it.
	due := func(s api.State) bool {
		return s.Head != 0 && record(s, s.Head).State == api.Waiting && s.Now >= s.Promise
	}
	if due(after) && !late(after) {
		j, l := record(after, after.Head).Job, r.s.Look()
		if !promise.Fits(l.View, l.Left[j.Queue], api.Want{Queue: j.Queue, Members: j.Shape.Min, Shape: j.Shape}) {
			r.Fatal(a, after)
		}
	}
	if !picked {
		return
	}
	// A worker starts whom it holds in time, and else takes a head that is due.
	want := 0
	if held := before.Workers[a.N]; held != 0 && record(before, held).Limit >= before.Now {
		want = api.Started
	} else if due(before) {
		want = api.Took
	}
	if x := is.Events[len(is.Events)-1]; want != 0 && x.Kind != want || want == api.Took && x.Id != before.Head {
		r.Fatal(a, is, before, after)
	}
}

func sameHold(a, b api.Hold) bool {
	return a.Id == b.Id && a.Queue == b.Queue && a.Until == b.Until && a.Running == b.Running && slices.Equal(a.Slots, b.Slots)
}

func sameState(a, b api.State) bool {
	return a.Now == b.Now && a.Arrivals == b.Arrivals && a.Head == b.Head && a.Promise == b.Promise &&
		slices.Equal(a.Workers, b.Workers) && slices.Equal(a.Drained, b.Drained) && slices.Equal(a.Gangs, b.Gangs) &&
		slices.EqualFunc(a.Holds, b.Holds, sameHold) && slices.Equal(a.Free, b.Free) && slices.Equal(a.Used, b.Used)
}

func sameLook(a, b api.Look) bool {
	return a.Now == b.Now && a.Head == b.Head && a.Promise == b.Promise && a.Timeout == b.Timeout &&
		slices.Equal(a.View, b.View) && slices.Equal(a.Left, b.Left) && slices.EqualFunc(a.Ends, b.Ends, sameHold) &&
		slices.Equal(a.Waits, b.Waits) && slices.Equal(a.Running, b.Running)
}

// wrongNumbers are such as stand for nothing, below 0 and far away.
func wrongNumbers() []int {
	return []int{-1, -2, 99, 1 << 16, 1 << 32, -1 << 32, math.MinInt, math.MinInt + 1, math.MaxInt - 1, math.MaxInt}
}
