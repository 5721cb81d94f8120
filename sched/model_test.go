package sched_test

import (
	"cmp"
	"math/bits"
	"slices"

	"ensemble/api"
	"ensemble/promise"
	"ensemble/worker"
)

const (
	last  = 1 << 30
	never = last + 1
)

// life is a gang as it stands, and the slots that it holds.
type life struct {
	api.Record
	slots []api.Slot
}

// model is a system written down plainly, by the chapter's words: of each gang what it is and has, and all else is counted out of that whenever it is asked.
type model struct {
	c                  api.Config
	now, head, promise int
	workers            []int
	drained            []bool
	lives              []*life
}

func newModel(c api.Config) *model {
	return &model{c: c, workers: make([]int, c.Workers), drained: make([]bool, len(c.Cluster.Nodes))}
}

// of is the gangs of a state, in order.
func (m *model) of(states ...int) []*life {
	var l []*life
	for _, g := range m.lives {
		if slices.Contains(states, g.State) {
			l = append(l, g)
		}
	}
	return l
}

// find is the gang of an Id, if it is of one of the states.
func (m *model) find(id int, states ...int) *life {
	for _, g := range m.of(states...) {
		if g.Job.Id == id {
			return g
		}
	}
	return nil
}

func byIds(l []*life) []*life {
	slices.SortFunc(l, func(a, b *life) int { return cmp.Compare(a.Job.Id, b.Job.Id) })
	return l
}

// empty is what is in the cluster.
func empty(c api.Config) []api.Free {
	var l []api.Free
	for n, node := range c.Cluster.Nodes {
		for d, domain := range node.Domains {
			l = append(l, api.Free{Spot: api.Spot{Node: n, Domain: d}, Mask: 1<<domain.Gpus - 1, Cpus: domain.Cpus})
		}
	}
	return l
}

// free is what is free at each spot.
func (m *model) free() []api.Free {
	l := empty(m.c)
	for _, g := range m.lives {
		for _, s := range g.slots {
			k := slices.IndexFunc(l, func(f api.Free) bool { return f.Spot == s.Spot })
			l[k].Mask ^= s.Mask
			l[k].Cpus -= s.Cpus
		}
	}
	return l
}

// view is what is free where nobody drained.
func (m *model) view() []api.Free {
	return slices.DeleteFunc(m.free(), func(f api.Free) bool { return m.drained[f.Spot.Node] })
}

func need(slots []api.Slot) api.Units {
	var u api.Units
	for _, s := range slots {
		u.Gpus += bits.OnesCount64(s.Mask)
		u.Cpus += s.Cpus
	}
	return u
}

// used is what each queue uses.
func (m *model) used() []api.Units {
	l := make([]api.Units, len(m.c.Queues))
	for _, g := range m.lives {
		u := need(g.slots)
		l[g.Job.Queue].Gpus += u.Gpus
		l[g.Job.Queue].Cpus += u.Cpus
	}
	return l
}

func (m *model) left() []api.Units {
	l := m.used()
	for k, q := range m.c.Queues {
		l[k] = api.Units{Gpus: q.Quota.Gpus - l[k].Gpus, Cpus: q.Quota.Cpus - l[k].Cpus}
	}
	return l
}

// holds is all holds, rising by Ids; each reserved one till so long after its limit as the closure tells.
func (m *model) holds(more func(api.Job) int) []api.Hold {
	var l []api.Hold
	for _, g := range byIds(m.of(api.Reserved, api.Running)) {
		h := api.Hold{Id: g.Job.Id, Queue: g.Job.Queue, Until: g.End, Running: true, Slots: slices.Clone(g.slots)}
		if g.State == api.Reserved {
			h.Until, h.Running = g.Limit+more(g.Job), false
		}
		l = append(l, h)
	}
	return l
}

// ends is the holds as they end.
func (m *model) ends() []api.Hold {
	return m.holds(func(j api.Job) int { return j.Runtime })
}

// waits is who waits and isn't reserved, the first in order first.
func (m *model) waits() []api.Wait {
	var l []api.Wait
	for _, g := range m.of(api.Waiting) {
		l = append(l, api.Wait{Job: g.Job, Since: g.Since, Number: g.Number})
	}
	rank := func(w api.Wait) int { return w.Job.Prio + (m.now-w.Since)/m.c.Age }
	slices.SortFunc(l, func(a, b api.Wait) int {
		return cmp.Or(cmp.Compare(rank(b), rank(a)), cmp.Compare(a.Number, b.Number))
	})
	return l
}

func (m *model) records(l []*life) []api.Record {
	var records []api.Record
	for _, g := range l {
		records = append(records, g.Record)
	}
	return records
}

func (m *model) state() api.State {
	return api.State{
		Now: m.now, Arrivals: len(m.lives), Head: m.head, Promise: m.promise, Workers: m.workers, Drained: m.drained,
		Gangs: m.records(m.lives), Holds: m.holds(func(api.Job) int { return 0 }), Free: m.free(), Used: m.used(),
	}
}

func (m *model) look() api.Look {
	return api.Look{
		Now: m.now, Head: m.head, Promise: m.promise, Timeout: m.c.Timeout, View: m.view(), Left: m.left(),
		Ends: m.ends(), Waits: m.waits(), Running: m.records(m.of(api.Running)),
	}
}

// fitsAt tells whether a job's least members fit at a tick, when all holds have ended that end by then.
func (m *model) fitsAt(tick int, j api.Job) bool {
	view, left := m.view(), m.left()[j.Queue]
	for _, h := range m.ends() {
		if h.Until > tick {
			continue
		}
		for _, s := range h.Slots {
			k := slices.IndexFunc(view, func(f api.Free) bool { return f.Spot == s.Spot })
			view[k].Mask |= s.Mask
			view[k].Cpus += s.Cpus
		}
		if u := need(h.Slots); h.Queue == j.Queue {
			left.Gpus += u.Gpus
			left.Cpus += u.Cpus
		}
	}
	return promise.Fits(view, left, api.Want{Queue: j.Queue, Members: j.Shape.Min, Shape: j.Shape})
}

// pledge promises the head, if there is one.
func (m *model) pledge() {
	g := m.find(m.head, api.Waiting, api.Reserved)
	if g == nil {
		return
	}
	ticks := []int{m.now, never}
	for _, h := range m.ends() {
		if h.Until > m.now && h.Until < never {
			ticks = append(ticks, h.Until)
		}
	}
	slices.Sort(ticks)
	for _, tick := range ticks {
		if m.promise = tick; tick < never && m.fitsAt(tick, g.Job) {
			return
		}
	}
}

// let makes every worker that holds a gang hold nobody.
func (m *model) let(g *life) {
	for k, id := range m.workers {
		if id == g.Job.Id {
			m.workers[k] = 0
		}
	}
}

// over frees a gang, which is something else then.
func (m *model) over(g *life, state int) {
	m.let(g)
	if m.head == g.Job.Id {
		m.head, m.promise = 0, 0
	}
	g.slots, g.State, g.Members, g.Limit, g.Worker = nil, state, 0, 0, 0
}

func event(kind, id, n int) api.Event { return api.Event{Kind: kind, Id: id, N: n} }

func refused(e api.Errno) api.Reply { return api.Reply{Err: e} }

func done(l ...api.Event) api.Reply { return api.Reply{Events: l} }

func (m *model) do(a api.Act) api.Reply {
	switch a.Kind {
	case api.Submit:
		return m.submit(a.Job)
	case api.Cancel:
		if g := m.find(a.N, api.Waiting, api.Reserved, api.Running); g != nil {
			m.over(g, api.Cancelled)
			return done(event(api.Gone, a.N, 0))
		}
	case api.Finish:
		if g := m.find(a.N, api.Running); g != nil {
			m.over(g, api.Finished)
			return done(event(api.Ended, a.N, 0))
		}
	case api.Drain:
		return m.drain(a.N)
	case api.Undrain:
		if a.N < 0 || a.N >= len(m.drained) {
			return refused(api.ErrRange)
		}
		if m.drained[a.N] {
			m.drained[a.N] = false
			m.pledge()
			return done()
		}
	case api.Tick:
		return m.tick()
	case api.Pick:
		if a.N >= 0 && a.N < len(m.workers) {
			return done(m.step(a.N)...)
		}
	case api.Shrink:
		if g := m.find(a.N, api.Running); g != nil {
			return m.shrink(g)
		}
	default:
		return refused(api.ErrRange)
	}
	return refused(api.ErrNone)
}

func (m *model) submit(j api.Job) api.Reply {
	s := j.Shape
	if j.Id < 1 || j.Id > 65535 || j.Prio < 0 || j.Prio > 15 || j.Runtime < 1 || j.Runtime > m.c.Runtime ||
		s.Gpus < 0 || s.Gpus > 16 || s.Cpus < 0 || s.Cpus > 1024 || s.Gpus == 0 && s.Cpus == 0 || s.Min < 1 || s.Max < s.Min || s.Max > 16 {
		return refused(api.ErrRange)
	}
	if j.Queue < 0 || j.Queue >= len(m.c.Queues) {
		return refused(api.ErrNone)
	}
	room, inQueue := 0, 0
	for _, f := range empty(m.c) {
		for gpus, cpus := bits.OnesCount64(f.Mask), f.Cpus; gpus >= s.Gpus && cpus >= s.Cpus && room < s.Min; room++ {
			gpus, cpus = gpus-s.Gpus, cpus-s.Cpus
		}
	}
	for _, g := range m.lives {
		if g.Job.Id == j.Id {
			return refused(api.ErrTwice)
		}
		if g.Job.Queue == j.Queue && (g.State == api.Waiting || g.State == api.Reserved) {
			inQueue++
		}
	}
	q := m.c.Queues[j.Queue]
	switch {
	case room < s.Min:
		return refused(api.ErrFit)
	case s.Min*s.Gpus > q.Quota.Gpus || s.Min*s.Cpus > q.Quota.Cpus:
		return refused(api.ErrQuota)
	case inQueue >= q.Room || len(m.lives) >= 4096:
		return refused(api.ErrFull)
	}
	n := len(m.lives) + 1
	m.lives = append(m.lives, &life{Record: api.Record{Job: j, State: api.Waiting, Since: m.now, Number: n}})
	return done(event(api.Queued, j.Id, n))
}

func (m *model) drain(node int) api.Reply {
	if node < 0 || node >= len(m.drained) {
		return refused(api.ErrRange)
	}
	if m.drained[node] {
		return refused(api.ErrTwice)
	}
	m.drained[node] = true
	var l []api.Event
	for _, g := range byIds(m.of(api.Reserved, api.Running)) {
		if slices.ContainsFunc(g.slots, func(s api.Slot) bool { return s.Spot.Node == node }) {
			m.over(g, api.Killed)
			l = append(l, event(api.Dead, g.Job.Id, 0))
		}
	}
	m.pledge()
	return done(l...)
}

func (m *model) tick() api.Reply {
	if m.now == last {
		return refused(api.ErrLate)
	}
	m.now++
	var l []api.Event
	for _, g := range byIds(m.of(api.Running)) {
		if g.End <= m.now {
			m.over(g, api.Killed)
			l = append(l, event(api.Dead, g.Job.Id, 1))
		}
	}
	return done(l...)
}

func (m *model) shrink(g *life) api.Reply {
	if len(g.slots) <= g.Job.Shape.Min {
		return refused(api.ErrState)
	}
	g.slots = g.slots[:len(g.slots)-1]
	g.Members--
	return done(event(api.Shrunk, g.Job.Id, g.Members))
}

// step is a worker's.
func (m *model) step(k int) []api.Event {
	var l []api.Event
	headToo := false
	for _, g := range byIds(m.of(api.Reserved)) {
		if g.Limit < m.now {
			headToo = headToo || g.Job.Id == m.head
			m.let(g)
			g.slots, g.State, g.Members, g.Limit, g.Worker = nil, api.Waiting, 0, 0, 0
			l = append(l, event(api.Expired, g.Job.Id, 0))
		}
	}
	if headToo {
		m.pledge()
	}
	if id := m.workers[k]; id != 0 {
		g := m.find(id, api.Reserved)
		m.let(g)
		if m.head == id {
			m.head, m.promise = 0, 0
		}
		g.State, g.Began, g.End, g.Limit, g.Worker = api.Running, m.now, m.now+g.Job.Runtime, 0, 0
		return append(l, event(api.Started, id, g.Members))
	}
	if w := m.waits(); m.head == 0 && len(w) > 0 {
		m.head = w[0].Job.Id
		m.pledge()
		l = append(l, event(api.Headed, m.head, m.promise))
	}
	return append(l, m.choose(k))
}

func (m *model) choose(k int) api.Event {
	c := worker.Choose(m.look())
	switch c.Do {
	case api.Head, api.Fill:
		g := m.find(c.Id, api.Waiting)
		g.slots, g.State, g.Members, g.Limit, g.Worker = c.Slots, api.Reserved, len(c.Slots), m.now+m.c.Timeout, k
		m.workers[k] = c.Id
		return event(api.Took, c.Id, len(c.Slots))
	case api.Grow:
		g := m.find(c.Id, api.Running)
		g.slots = append(slices.Clone(g.slots), c.Slots...)
		g.Members++
		return event(api.Grown, c.Id, g.Members)
	}
	return event(api.Idle, 0, 0)
}
