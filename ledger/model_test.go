package ledger_test

import (
	"cmp"
	"fmt"
	"slices"
	"testing"

	"ensemble/api"
	"ensemble/ledger"
)

// node is a node of such domains.
func node(domains ...api.Domain) api.Node { return api.Node{Domains: domains} }

// cluster is a cluster of such nodes.
func cluster(nodes ...api.Node) api.Cluster { return api.Cluster{Nodes: nodes} }

// even is a cluster of nodes of so many domains each, all alike.
func even(nodes, domains int, d api.Domain) api.Cluster {
	var c api.Cluster
	for range nodes {
		var n api.Node
		for range domains {
			n.Domains = append(n.Domains, d)
		}
		c.Nodes = append(c.Nodes, n)
	}
	return c
}

// mixed is three nodes of 2, 1 and 3 domains; one has no Gpus, one no Cpus, one neither.
func mixed() api.Cluster {
	return cluster(
		node(api.Domain{Gpus: 4, Cpus: 8}, api.Domain{Gpus: 0, Cpus: 6}),
		node(api.Domain{Gpus: 16, Cpus: 1024}),
		node(api.Domain{Gpus: 3, Cpus: 0}, api.Domain{}, api.Domain{Gpus: 1, Cpus: 1}),
	)
}

func units(gpus, cpus int) api.Units { return api.Units{Gpus: gpus, Cpus: cpus} }

// at is a slot.
func at(node, domain int, m uint64, cpus int) api.Slot {
	return api.Slot{Spot: api.Spot{Node: node, Domain: domain}, Mask: m, Cpus: cpus}
}

// free is what is free at a spot.
func free(node, domain int, m uint64, cpus int) api.Free {
	return api.Free{Spot: api.Spot{Node: node, Domain: domain}, Mask: m, Cpus: cpus}
}

func slots(l ...api.Slot) []api.Slot { return l }

// hold is a reserved one, run is one that is running.
func hold(id, queue, until int, l ...api.Slot) api.Hold {
	return api.Hold{Id: id, Queue: queue, Until: until, Slots: l}
}

func run(id, queue, until int, l ...api.Slot) api.Hold {
	h := hold(id, queue, until, l...)
	h.Running = true
	return h
}

// plenty is a quota that no cluster passes.
func plenty() api.Units { return units(1<<20, 1<<20) }

func made(t *testing.T, c api.Cluster, quotas ...api.Units) *ledger.Ledger {
	t.Helper()
	l, e := ledger.New(c, quotas)
	if l == nil || e != api.OK {
		t.Fatalf("New(%v, %v) = %v, %d", c, quotas, l, e)
	}
	return l
}

func reserve(t *testing.T, l *ledger.Ledger, h api.Hold) {
	t.Helper()
	if e := l.Reserve(h.Id, h.Queue, h.Until, l.Version(), h.Slots); e != api.OK {
		t.Fatalf("Reserve(%v) = %d", h, e)
	}
}

func commit(t *testing.T, l *ledger.Ledger, id, now, until int) {
	t.Helper()
	if e := l.Commit(id, now, until); e != api.OK {
		t.Fatalf("Commit(%d, %d, %d) = %d", id, now, until, e)
	}
}

func grow(t *testing.T, l *ledger.Ledger, id int, s api.Slot) {
	t.Helper()
	if e := l.Grow(id, s); e != api.OK {
		t.Fatalf("Grow(%d, %v) = %d", id, s, e)
	}
}

// shrink holds the slot that is told against s.
func shrink(t *testing.T, l *ledger.Ledger, id int, s api.Slot) {
	t.Helper()
	if x, e := l.Shrink(id); x != s || e != api.OK {
		t.Fatalf("Shrink(%d) = %v, %d, want %v", id, x, e, s)
	}
}

// release holds what is told against h.
func release(t *testing.T, l *ledger.Ledger, h api.Hold) {
	t.Helper()
	if x, e := l.Release(h.Id); fmt.Sprint(x) != fmt.Sprint(h) || e != api.OK {
		t.Fatalf("Release(%d) = %v, %d, want %v", h.Id, x, e, h)
	}
}

// expire holds the ids that are told against ids.
func expire(t *testing.T, l *ledger.Ledger, now int, ids ...int) {
	t.Helper()
	if x := l.Expire(now); !slices.Equal(x, ids) {
		t.Fatalf("Expire(%d) = %v, want %v", now, x, ids)
	}
}

// drain holds the ids that are told against ids.
func drain(t *testing.T, l *ledger.Ledger, node int, ids ...int) {
	t.Helper()
	if x, e := l.Drain(node); !slices.Equal(x, ids) || e != api.OK {
		t.Fatalf("Drain(%d) = %v, %d, want %v", node, x, e, ids)
	}
}

func undrain(t *testing.T, l *ledger.Ledger, node int) {
	t.Helper()
	if e := l.Undrain(node); e != api.OK {
		t.Fatalf("Undrain(%d) = %d", node, e)
	}
}

// start reserves a hold, and commits it if it is one that is running.
func start(t *testing.T, l *ledger.Ledger, h api.Hold) {
	t.Helper()
	reserve(t, l, h)
	if h.Running {
		commit(t, l, h.Id, h.Until, h.Until)
	}
}

// told is all that a ledger tells, as a text; of a queue too many and too few.
func told(l *ledger.Ledger) string {
	var left []any
	for q := -1; q <= len(l.Used()); q++ {
		u, e := l.Left(q)
		left = append(left, u, e)
	}
	return fmt.Sprint(l.Version(), l.Holds(), l.Free(), l.View(), l.Used(), left, l.Drained())
}

// slow is a ledger told plainly: of what is free and used nothing is kept, all of it is counted out of the holds, unit by unit.
type slow struct {
	cluster api.Cluster
	quotas  []api.Units
	holds   []api.Hold
	drained []bool
	version int
}

func slowMade(c api.Cluster, quotas ...api.Units) *slow {
	return &slow{cluster: c, quotas: quotas, drained: make([]bool, len(c.Nodes))}
}

// free is what is free at each spot; a unit that two holds have, or one that isn't there, makes it panic.
func (s *slow) free() []api.Free {
	var l []api.Free
	for n, x := range s.cluster.Nodes {
		for d, y := range x.Domains {
			f := free(n, d, 0, y.Cpus)
			for g := range y.Gpus {
				f.Mask |= 1 << g
			}
			for _, h := range s.holds {
				for _, z := range h.Slots {
					if z.Spot != f.Spot {
						continue
					}
					for g := range 64 {
						if z.Mask>>g&1 == 1 && f.Mask>>g&1 == 0 {
							panic("a Gpu is held twice")
						}
					}
					f.Mask ^= z.Mask
					if f.Cpus -= z.Cpus; f.Cpus < 0 {
						panic("too many Cpus are held")
					}
				}
			}
			l = append(l, f)
		}
	}
	return l
}

func (s *slow) view() []api.Free {
	return slices.DeleteFunc(s.free(), func(f api.Free) bool { return s.drained[f.Spot.Node] })
}

func (s *slow) used() []api.Units {
	l := make([]api.Units, len(s.quotas))
	for _, h := range s.holds {
		for _, z := range h.Slots {
			for g := range 64 {
				l[h.Queue].Gpus += int(z.Mask >> g & 1)
			}
			l[h.Queue].Cpus += z.Cpus
		}
	}
	return l
}

func (s *slow) told() string {
	var left []any
	used := s.used()
	for q := -1; q <= len(s.quotas); q++ {
		if q < 0 || q == len(s.quotas) {
			left = append(left, api.Units{}, api.ErrNone)
		} else {
			left = append(left, units(s.quotas[q].Gpus-used[q].Gpus, s.quotas[q].Cpus-used[q].Cpus), api.OK)
		}
	}
	holds := slices.SortedFunc(slices.Values(s.holds), func(a, b api.Hold) int { return cmp.Compare(a.Id, b.Id) })
	return fmt.Sprint(s.version, holds, s.free(), s.view(), used, left, s.drained)
}

// wrong is layer 3's Take's error of slots that a queue would have besides, or that its quota is passed.
func (s *slow) wrong(queue int, l []api.Slot) api.Errno {
	more := *s
	for _, z := range l {
		if z.Cpus < 0 {
			return api.ErrRange
		}
		free := more.free()
		k := slices.IndexFunc(free, func(f api.Free) bool { return f.Spot == z.Spot })
		if k < 0 {
			return api.ErrNone
		}
		if s.drained[z.Spot.Node] {
			return api.ErrState
		}
		if z.Mask&free[k].Mask != z.Mask || z.Cpus > free[k].Cpus {
			return api.ErrBusy
		}
		more.holds = append(slices.Clone(more.holds), hold(0, queue, 0, z))
	}
	if u := more.used()[queue]; u.Gpus > s.quotas[queue].Gpus || u.Cpus > s.quotas[queue].Cpus {
		return api.ErrQuota
	}
	return api.OK
}

// find is where the hold of an id stands, or -1.
func (s *slow) find(id int) int {
	return slices.IndexFunc(s.holds, func(h api.Hold) bool { return h.Id == id })
}

func (s *slow) reserve(id, queue, until, version int, l []api.Slot) api.Errno {
	switch {
	case version != s.version:
		return api.ErrLost
	case len(l) == 0 || len(l) > 16:
		return api.ErrRange
	case s.find(id) >= 0:
		return api.ErrTwice
	case queue < 0 || queue >= len(s.quotas):
		return api.ErrNone
	}
	if e := s.wrong(queue, l); e != api.OK {
		return e
	}
	s.holds = append(s.holds, hold(id, queue, until, slices.Clone(l)...))
	s.version++
	return api.OK
}

func (s *slow) commit(id, now, until int) api.Errno {
	k := s.find(id)
	switch {
	case k < 0:
		return api.ErrNone
	case s.holds[k].Running:
		return api.ErrState
	case now > s.holds[k].Until:
		return api.ErrLate
	}
	s.holds[k].Running, s.holds[k].Until = true, until
	s.version++
	return api.OK
}

func (s *slow) grow(id int, z api.Slot) api.Errno {
	k := s.find(id)
	switch {
	case k < 0:
		return api.ErrNone
	case !s.holds[k].Running:
		return api.ErrState
	case len(s.holds[k].Slots) == 16:
		return api.ErrFull
	}
	if e := s.wrong(s.holds[k].Queue, slots(z)); e != api.OK {
		return e
	}
	s.holds[k].Slots = append(s.holds[k].Slots, z)
	s.version++
	return api.OK
}

func (s *slow) shrink(id int) (api.Slot, api.Errno) {
	k := s.find(id)
	switch {
	case k < 0:
		return api.Slot{}, api.ErrNone
	case !s.holds[k].Running || len(s.holds[k].Slots) == 1:
		return api.Slot{}, api.ErrState
	}
	n := len(s.holds[k].Slots) - 1
	z := s.holds[k].Slots[n]
	s.holds[k].Slots = slices.Clone(s.holds[k].Slots[:n])
	s.version++
	return z, api.OK
}

func (s *slow) release(id int) (api.Hold, api.Errno) {
	k := s.find(id)
	if k < 0 {
		return api.Hold{}, api.ErrNone
	}
	h := s.holds[k]
	s.holds = slices.Delete(s.holds, k, k+1)
	s.version++
	return h, api.OK
}

// gone lets those go that are asked for, and tells their ids.
func (s *slow) gone(asked func(api.Hold) bool) []int {
	var ids []int
	for _, h := range s.holds {
		if asked(h) {
			ids = append(ids, h.Id)
		}
	}
	s.holds = slices.DeleteFunc(s.holds, asked)
	slices.Sort(ids)
	return ids
}

func (s *slow) expire(now int) []int {
	ids := s.gone(func(h api.Hold) bool { return !h.Running && h.Until < now })
	if len(ids) > 0 {
		s.version++
	}
	return ids
}

func (s *slow) drain(node int) ([]int, api.Errno) {
	if node < 0 || node >= len(s.drained) {
		return nil, api.ErrRange
	}
	if s.drained[node] {
		return nil, api.ErrTwice
	}
	s.drained[node] = true
	s.version++
	return s.gone(func(h api.Hold) bool {
		for _, z := range h.Slots {
			if z.Spot.Node == node {
				return true
			}
		}
		return false
	}), api.OK
}

func (s *slow) undrain(node int) api.Errno {
	if node < 0 || node >= len(s.drained) {
		return api.ErrRange
	}
	if !s.drained[node] {
		return api.ErrNone
	}
	s.drained[node] = false
	s.version++
	return api.OK
}

// draws is a fixed row of numbers.
type draws uint64

func (d *draws) below(n int) int {
	*d ^= *d << 13
	*d ^= *d >> 7
	*d ^= *d << 17
	return int(uint64(*d>>11) % uint64(n))
}
