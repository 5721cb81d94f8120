package pool_test

import (
	"fmt"
	"math"
	"math/bits"
	"slices"
	"testing"

	"ensemble/api"
	"ensemble/pool"
	"ensemble/topo"
)

// node is a node of such domains.
func node(domains ...api.Domain) api.Node { return api.Node{Domains: domains} }

// cluster is a cluster of such nodes.
func cluster(nodes ...api.Node) api.Cluster { return api.Cluster{Nodes: nodes} }

// mixed is three nodes of 2, 1 and 3 domains; one has no Gpus, one no Cpus, one neither.
func mixed() api.Cluster {
	return cluster(
		node(api.Domain{Gpus: 4, Cpus: 8}, api.Domain{Gpus: 0, Cpus: 6}),
		node(api.Domain{Gpus: 16, Cpus: 1024}),
		node(api.Domain{Gpus: 3, Cpus: 0}, api.Domain{}, api.Domain{Gpus: 1, Cpus: 1}),
	)
}

// even is a cluster of nodes of so many domains each, all alike.
func even(nodes, domains int, d api.Domain) api.Cluster {
	var c api.Cluster
	for range nodes {
		var n api.Node
		for range domains {
			n.Domains = append(n.Domains, d)
		}
		c.Nodes = append(c.Nodes, n)
	}
	return c
}

// at is a slot.
func at(node, domain int, m uint64, cpus int) api.Slot {
	return api.Slot{Spot: api.Spot{Node: node, Domain: domain}, Mask: m, Cpus: cpus}
}

// free is what is free at a spot.
func free(node, domain int, m uint64, cpus int) api.Free {
	return api.Free{Spot: api.Spot{Node: node, Domain: domain}, Mask: m, Cpus: cpus}
}

// whole is all that is in mixed().
func whole() []api.Free {
	return []api.Free{free(0, 0, 15, 8), free(0, 1, 0, 6), free(1, 0, 65535, 1024), free(2, 0, 7, 0), free(2, 1, 0, 0), free(2, 2, 1, 1)}
}

func made(t *testing.T, c api.Cluster) *pool.Pool {
	t.Helper()
	p, e := pool.New(c)
	if p == nil || e != api.OK {
		t.Fatalf("New(%v) = %v, %d", c, p, e)
	}
	return p
}

func take(t *testing.T, p *pool.Pool, slots ...api.Slot) {
	t.Helper()
	if e := p.Take(slots...); e != api.OK {
		t.Fatalf("Take(%v) = %d", slots, e)
	}
}

func drain(t *testing.T, p *pool.Pool, node int) {
	t.Helper()
	if e := p.Drain(node); e != api.OK {
		t.Fatalf("Drain(%d) = %d", node, e)
	}
}

// told is all that a pool tells, as a text.
func told(p *pool.Pool) string {
	var drained []int
	for n := -2; n < 20; n++ {
		if p.Drained(n) {
			drained = append(drained, n)
		}
	}
	return fmt.Sprint(p.Free(), p.View(), p.Out(), drained)
}

// slowUnit is a Gpu: a spot, and its number there.
type slowUnit struct {
	spot api.Spot
	unit int
}

// slowPool asks each Gpu for itself, and counts each spot's Cpus.
type slowPool struct {
	spots   []api.Spot
	gpus    map[slowUnit]bool // there is such a Gpu: is it taken?
	there   map[api.Spot]int  // Cpus
	taken   map[api.Spot]int  // Cpus
	drained [16]bool
	nodes   int
}

func slowMade(c api.Cluster) *slowPool {
	s := &slowPool{gpus: map[slowUnit]bool{}, there: map[api.Spot]int{}, taken: map[api.Spot]int{}, nodes: len(c.Nodes)}
	for i, n := range c.Nodes {
		for k, d := range n.Domains {
			spot := api.Spot{Node: i, Domain: k}
			s.spots = append(s.spots, spot)
			s.there[spot] = d.Cpus
			for g := range d.Gpus {
				s.gpus[slowUnit{spot, g}] = false
			}
		}
	}
	return s
}

func (s *slowPool) clone() *slowPool {
	c := *s
	c.gpus, c.taken = map[slowUnit]bool{}, map[api.Spot]int{}
	for u, taken := range s.gpus {
		c.gpus[u] = taken
	}
	for spot, n := range s.taken {
		c.taken[spot] = n
	}
	return &c
}

// take is slot by slot; a wrong slot leaves all as it was.
func (s *slowPool) take(slots []api.Slot) api.Errno {
	c := s.clone()
	for _, x := range slots {
		there, ok := c.there[x.Spot]
		switch {
		case x.Cpus < 0:
			return api.ErrRange
		case !ok:
			return api.ErrNone
		case c.drained[x.Spot.Node]:
			return api.ErrState
		case x.Cpus > there-c.taken[x.Spot]:
			return api.ErrBusy
		}
		for g := range 64 {
			u := slowUnit{x.Spot, g}
			if x.Mask>>g&1 == 0 {
				continue
			}
			if taken, ok := c.gpus[u]; !ok || taken {
				return api.ErrBusy
			}
			c.gpus[u] = true
		}
		c.taken[x.Spot] += x.Cpus
	}
	*s = *c
	return api.OK
}

// give is slot by slot; a wrong slot leaves all as it was.
func (s *slowPool) give(slots []api.Slot) api.Errno {
	c := s.clone()
	for _, x := range slots {
		if x.Cpus < 0 {
			return api.ErrRange
		}
		if _, ok := c.there[x.Spot]; !ok {
			return api.ErrNone
		}
		e := api.OK
		for g := 63; g >= 0; g-- {
			if x.Mask>>g&1 == 0 {
				continue
			}
			u := slowUnit{x.Spot, g}
			if taken, ok := c.gpus[u]; !ok {
				return api.ErrNone
			} else if !taken {
				e = api.ErrTwice
			}
			c.gpus[u] = false
		}
		if e != api.OK || x.Cpus > c.taken[x.Spot] {
			return api.ErrTwice
		}
		c.taken[x.Spot] -= x.Cpus
	}
	*s = *c
	return api.OK
}

func (s *slowPool) told() string {
	all, view, drained := []api.Free{}, []api.Free{}, []int(nil)
	out := api.Units{}
	for _, spot := range s.spots {
		f := api.Free{Spot: spot, Cpus: s.there[spot] - s.taken[spot]}
		out.Cpus += s.taken[spot]
		for g := range 64 {
			if taken, ok := s.gpus[slowUnit{spot, g}]; ok && taken {
				out.Gpus++
			} else if ok {
				f.Mask += 1 << g
			}
		}
		all = append(all, f)
		if !s.drained[spot.Node] {
			view = append(view, f)
		}
	}
	for n, d := range s.drained {
		if d {
			drained = append(drained, n)
		}
	}
	return fmt.Sprint(all, view, out, drained)
}

// draws is a fixed row of numbers.
type draws uint64

func (d *draws) below(n int) int {
	*d ^= *d << 13
	*d ^= *d >> 7
	*d ^= *d << 17
	return int(uint64(*d>>11) % uint64(n))
}

// The chapter's example.
func TestExample(t *testing.T) {
	p := made(t, cluster(node(api.Domain{Gpus: 4, Cpus: 8})))
	take(t, p, at(0, 0, 0b0011, 4))
	if l := p.Free(); !slices.Equal(l, []api.Free{free(0, 0, 0b1100, 4)}) {
		t.Error(l)
	}
	if e := p.Take(at(0, 0, 0b0011, 4)); e != api.ErrBusy {
		t.Error(e)
	}
}

// P3.1: clusters that layer 2 refuses.
func TestNewWrong(t *testing.T) {
	right := api.Domain{Gpus: 4, Cpus: 8}
	for i, c := range []api.Cluster{
		{},
		{Nodes: []api.Node{}},
		even(17, 1, right),
		cluster(node(right), node()),
		even(1, 5, right),
		cluster(node(api.Domain{Gpus: -1})),
		cluster(node(api.Domain{Gpus: 17})),
		cluster(node(right, api.Domain{Cpus: -1})),
		cluster(node(right), node(api.Domain{Cpus: 1025})),
		cluster(node(api.Domain{Gpus: math.MinInt, Cpus: math.MaxInt})),
	} {
		_, want := topo.New(c)
		if p, e := pool.New(c); p != nil || e != want || e != api.ErrRange {
			t.Errorf("%d: New = %v, %d, want %d", i, p, e, want)
		}
	}
}

// P3.1: at first all units are free, and no node is drained.
func TestNewIsFree(t *testing.T) {
	if p := made(t, mixed()); !slices.Equal(p.Free(), whole()) || !slices.Equal(p.View(), whole()) || p.Out() != (api.Units{}) {
		t.Error(told(p))
	}
	for _, c := range []api.Cluster{
		mixed(),
		even(1, 1, api.Domain{}),
		even(16, 4, api.Domain{}),
		even(16, 4, api.Domain{Gpus: 16, Cpus: 1024}),
		even(3, 2, api.Domain{Gpus: 5}),
		even(2, 3, api.Domain{Cpus: 7}),
	} {
		if p := made(t, c); told(p) != slowMade(c).told() {
			t.Error(told(p))
		}
	}
}

// P3.1: calls of Take that are right, and what is free and out behind them.
func TestTakeRight(t *testing.T) {
	for i, x := range []struct {
		slots []api.Slot
		first api.Free // what is free at 0 0
		out   api.Units
	}{
		{nil, free(0, 0, 15, 8), api.Units{}},
		{[]api.Slot{}, free(0, 0, 15, 8), api.Units{}},
		{[]api.Slot{at(0, 0, 0, 0)}, free(0, 0, 15, 8), api.Units{}},
		{[]api.Slot{at(0, 0, 0, 0), at(0, 0, 0, 0)}, free(0, 0, 15, 8), api.Units{}},
		{[]api.Slot{at(0, 0, 4, 0)}, free(0, 0, 11, 8), api.Units{Gpus: 1}},
		{[]api.Slot{at(0, 0, 0, 3)}, free(0, 0, 15, 5), api.Units{Cpus: 3}},
		{[]api.Slot{at(0, 0, 15, 8)}, free(0, 0, 0, 0), api.Units{Gpus: 4, Cpus: 8}},
		{[]api.Slot{at(0, 0, 15, 8), at(0, 0, 0, 0)}, free(0, 0, 0, 0), api.Units{Gpus: 4, Cpus: 8}},
		{[]api.Slot{at(0, 0, 5, 4), at(0, 0, 10, 4)}, free(0, 0, 0, 0), api.Units{Gpus: 4, Cpus: 8}},
		{[]api.Slot{at(0, 0, 1, 1), at(1, 0, 1, 1), at(0, 0, 2, 2)}, free(0, 0, 12, 5), api.Units{Gpus: 3, Cpus: 4}},
		{[]api.Slot{at(0, 1, 0, 6)}, free(0, 0, 15, 8), api.Units{Cpus: 6}},
		{[]api.Slot{at(2, 0, 7, 0)}, free(0, 0, 15, 8), api.Units{Gpus: 3}},
		{[]api.Slot{at(2, 1, 0, 0)}, free(0, 0, 15, 8), api.Units{}},
		{[]api.Slot{at(1, 0, 65535, 1024)}, free(0, 0, 15, 8), api.Units{Gpus: 16, Cpus: 1024}},
	} {
		p := made(t, mixed())
		if e := p.Take(x.slots...); e != api.OK || p.Free()[0] != x.first || p.Out() != x.out {
			t.Errorf("%d: Take(%v) = %d, %s", i, x.slots, e, told(p))
		}
	}
}

// P3.1: calls of Take that are refused, while some of 0 0 is taken and node 2 is drained; all stays as it was.
func TestTakeWrong(t *testing.T) {
	p := made(t, mixed())
	take(t, p, at(0, 0, 3, 5), at(1, 0, 1<<15, 0))
	drain(t, p, 2)
	was := told(p)
	for i, x := range []struct {
		slots []api.Slot
		e     api.Errno
	}{
		{[]api.Slot{at(0, 0, 0, -1)}, api.ErrRange},
		{[]api.Slot{at(0, 0, 4, math.MinInt)}, api.ErrRange},
		{[]api.Slot{at(0, 2, 0, 0)}, api.ErrNone},
		{[]api.Slot{at(0, -1, 0, 0)}, api.ErrNone},
		{[]api.Slot{at(3, 0, 0, 0)}, api.ErrNone},
		{[]api.Slot{at(-1, 0, 0, 0)}, api.ErrNone},
		{[]api.Slot{at(math.MaxInt, math.MinInt, 1, 1)}, api.ErrNone},
		{[]api.Slot{at(2, 0, 1, 0)}, api.ErrState},
		{[]api.Slot{at(2, 1, 0, 0)}, api.ErrState},
		{[]api.Slot{at(0, 0, 1, 0)}, api.ErrBusy},     // taken
		{[]api.Slot{at(0, 0, 6, 0)}, api.ErrBusy},     // one of two is taken
		{[]api.Slot{at(0, 0, 16, 0)}, api.ErrBusy},    // not there
		{[]api.Slot{at(0, 0, 20, 0)}, api.ErrBusy},    // one of two isn't there
		{[]api.Slot{at(0, 0, 1<<63, 0)}, api.ErrBusy}, // not there
		{[]api.Slot{at(0, 0, math.MaxUint64, 0)}, api.ErrBusy},
		{[]api.Slot{at(0, 1, 1, 0)}, api.ErrBusy}, // no Gpus
		{[]api.Slot{at(0, 0, 0, 4)}, api.ErrBusy}, // 3 are free
		{[]api.Slot{at(0, 0, 0, 9)}, api.ErrBusy}, // 8 are there
		{[]api.Slot{at(0, 0, 0, math.MaxInt)}, api.ErrBusy},
		{[]api.Slot{at(1, 0, 1<<15, 1)}, api.ErrBusy},
		{[]api.Slot{at(1, 0, 1, 1025)}, api.ErrBusy},

		// Of one slot, the error that the promise names first.
		{[]api.Slot{at(9, 0, 1, -1)}, api.ErrRange},
		{[]api.Slot{at(2, 0, 8, -1)}, api.ErrRange},
		{[]api.Slot{at(0, 0, 1, -1)}, api.ErrRange},
		{[]api.Slot{at(2, 3, 1, 9)}, api.ErrNone},
		{[]api.Slot{at(2, 0, 8, 9)}, api.ErrState},
		{[]api.Slot{at(2, 0, 0, 1)}, api.ErrState},

		// Each behind those ahead of it.
		{[]api.Slot{at(0, 0, 4, 0), at(0, 0, 4, 0)}, api.ErrBusy},
		{[]api.Slot{at(0, 0, 4, 2), at(0, 0, 8, 2)}, api.ErrBusy},
		{[]api.Slot{at(0, 0, 4, 1), at(1, 0, 1, 1), at(0, 0, 12, 1)}, api.ErrBusy},

		// The first wrong slot, from the left.
		{[]api.Slot{at(1, 0, 1, 1), at(0, 0, 1, 0), at(0, 0, 0, -1)}, api.ErrBusy},
		{[]api.Slot{at(1, 0, 1, 1), at(0, 0, 0, -1), at(0, 0, 1, 0)}, api.ErrRange},
		{[]api.Slot{at(1, 0, 1, 1), at(2, 0, 0, 0), at(7, 0, 0, 0)}, api.ErrState},
		{[]api.Slot{at(1, 0, 1, 1), at(7, 0, 0, 0), at(2, 0, 0, 0)}, api.ErrNone},
		{[]api.Slot{at(0, 0, 0, 4), at(7, 0, 0, -1)}, api.ErrBusy},
	} {
		if e := p.Take(x.slots...); e != x.e || told(p) != was {
			t.Errorf("%d: Take(%v) = %d, want %d: %s", i, x.slots, e, x.e, told(p))
		}
	}
	// What is free still is.
	take(t, p, at(0, 0, 12, 3), at(0, 1, 0, 6), at(1, 0, 1<<15-1, 1024))
}

// P3.2: what was taken is given back, whole or in other pieces, and in any order; of a drained node, too.
func TestGiveRight(t *testing.T) {
	for i, slots := range [][]api.Slot{
		{at(0, 0, 7, 8), at(1, 0, 65535, 1024), at(2, 0, 5, 0), at(0, 1, 0, 2)},
		{at(0, 1, 0, 2), at(2, 0, 5, 0), at(1, 0, 65535, 1024), at(0, 0, 7, 8)},
		{at(0, 0, 5, 0), at(0, 0, 0, 8), at(0, 0, 2, 0), at(0, 0, 0, 0), at(2, 0, 1, 0), at(2, 0, 4, 0), at(1, 0, 65535, 1024), at(0, 1, 0, 1), at(0, 1, 0, 1)},
	} {
		for k := range 8 {
			p := made(t, mixed())
			take(t, p, at(0, 0, 3, 5), at(0, 0, 4, 3), at(0, 1, 0, 2), at(1, 0, 65535, 1024), at(2, 0, 5, 0))
			for n := range 3 {
				if k>>n&1 == 1 {
					drain(t, p, n)
				}
			}
			if e := p.Give(slots...); e != api.OK || !slices.Equal(p.Free(), whole()) || p.Out() != (api.Units{}) {
				t.Errorf("%d, %d: Give(%v) = %d, %s", i, k, slots, e, told(p))
			}
		}
	}
}

// P3.2: pieces of what is taken, and no slot at all.
func TestGiveSome(t *testing.T) {
	for i, x := range []struct {
		slots []api.Slot
		first api.Free // what is free at 0 0
		out   api.Units
	}{
		{nil, free(0, 0, 8, 1), api.Units{Gpus: 3, Cpus: 7}},
		{[]api.Slot{}, free(0, 0, 8, 1), api.Units{Gpus: 3, Cpus: 7}},
		{[]api.Slot{at(0, 0, 0, 0)}, free(0, 0, 8, 1), api.Units{Gpus: 3, Cpus: 7}},
		{[]api.Slot{at(1, 0, 0, 0), at(2, 1, 0, 0)}, free(0, 0, 8, 1), api.Units{Gpus: 3, Cpus: 7}},
		{[]api.Slot{at(0, 0, 2, 0)}, free(0, 0, 10, 1), api.Units{Gpus: 2, Cpus: 7}},
		{[]api.Slot{at(0, 0, 0, 6)}, free(0, 0, 8, 7), api.Units{Gpus: 3, Cpus: 1}},
		{[]api.Slot{at(0, 0, 5, 1), at(0, 0, 2, 6)}, free(0, 0, 15, 8), api.Units{}},
	} {
		p := made(t, mixed())
		take(t, p, at(0, 0, 7, 7))
		if e := p.Give(x.slots...); e != api.OK || p.Free()[0] != x.first || p.Out() != x.out {
			t.Errorf("%d: Give(%v) = %d, %s", i, x.slots, e, told(p))
		}
	}
}

// P3.2: calls of Give that are refused, while some of 0 0 is taken and nodes 0 and 2 are drained; all stays as it was.
func TestGiveWrong(t *testing.T) {
	p := made(t, mixed())
	take(t, p, at(0, 0, 3, 5), at(2, 0, 1, 0))
	drain(t, p, 0)
	drain(t, p, 2)
	was := told(p)
	for i, x := range []struct {
		slots []api.Slot
		e     api.Errno
	}{
		{[]api.Slot{at(0, 0, 0, -1)}, api.ErrRange},
		{[]api.Slot{at(0, 0, 1, math.MinInt)}, api.ErrRange},
		{[]api.Slot{at(0, 2, 0, 0)}, api.ErrNone},
		{[]api.Slot{at(0, -1, 0, 0)}, api.ErrNone},
		{[]api.Slot{at(3, 0, 0, 0)}, api.ErrNone},
		{[]api.Slot{at(-1, 0, 0, 0)}, api.ErrNone},
		{[]api.Slot{at(math.MinInt, math.MaxInt, 1, 1)}, api.ErrNone},
		{[]api.Slot{at(0, 0, 16, 0)}, api.ErrNone},
		{[]api.Slot{at(0, 0, 17, 0)}, api.ErrNone}, // one of two isn't there, one is taken
		{[]api.Slot{at(0, 0, 20, 0)}, api.ErrNone}, // one of two isn't there, one is free
		{[]api.Slot{at(0, 0, 1<<63, 0)}, api.ErrNone},
		{[]api.Slot{at(0, 0, math.MaxUint64, 0)}, api.ErrNone},
		{[]api.Slot{at(0, 1, 1, 0)}, api.ErrNone}, // no Gpus
		{[]api.Slot{at(0, 0, 4, 0)}, api.ErrTwice},
		{[]api.Slot{at(0, 0, 5, 0)}, api.ErrTwice}, // one of two is free
		{[]api.Slot{at(0, 0, 15, 0)}, api.ErrTwice},
		{[]api.Slot{at(0, 0, 0, 6)}, api.ErrTwice}, // 5 are taken
		{[]api.Slot{at(0, 0, 0, 9)}, api.ErrTwice},
		{[]api.Slot{at(0, 0, 0, math.MaxInt)}, api.ErrTwice},
		{[]api.Slot{at(0, 0, 3, math.MaxInt-2)}, api.ErrTwice},
		{[]api.Slot{at(0, 1, 0, 1)}, api.ErrTwice},
		{[]api.Slot{at(1, 0, 1<<15, 0)}, api.ErrTwice},
		{[]api.Slot{at(1, 0, 0, math.MaxInt)}, api.ErrTwice},
		{[]api.Slot{at(2, 0, 1, 1)}, api.ErrTwice}, // no Cpus

		// Of one slot, the error that the promise names first.
		{[]api.Slot{at(9, 0, 1, -1)}, api.ErrRange},
		{[]api.Slot{at(0, 0, 16, -1)}, api.ErrRange},
		{[]api.Slot{at(0, 0, 4, -1)}, api.ErrRange},
		{[]api.Slot{at(0, 0, 16, 6)}, api.ErrNone},

		// Each behind those ahead of it.
		{[]api.Slot{at(0, 0, 1, 0), at(0, 0, 1, 0)}, api.ErrTwice},
		{[]api.Slot{at(0, 0, 0, 3), at(0, 0, 0, 3)}, api.ErrTwice},
		{[]api.Slot{at(0, 0, 3, 5), at(2, 0, 1, 0), at(0, 0, 0, 1)}, api.ErrTwice},

		// The first wrong slot, from the left.
		{[]api.Slot{at(0, 0, 1, 1), at(0, 0, 4, 0), at(0, 0, 0, -1)}, api.ErrTwice},
		{[]api.Slot{at(0, 0, 1, 1), at(0, 0, 0, -1), at(0, 0, 4, 0)}, api.ErrRange},
		{[]api.Slot{at(0, 0, 1, 1), at(0, 0, 0, 9), at(7, 0, 0, 0)}, api.ErrTwice},
		{[]api.Slot{at(0, 0, 1, 1), at(7, 0, 0, 0), at(0, 0, 0, 9)}, api.ErrNone},
		{[]api.Slot{at(0, 0, 1, 1), at(0, 0, 16, 0), at(7, 0, 0, -1)}, api.ErrNone},
	} {
		if e := p.Give(x.slots...); e != x.e || told(p) != was {
			t.Errorf("%d: Give(%v) = %d, want %d: %s", i, x.slots, e, x.e, told(p))
		}
	}
	// What is taken still is.
	if e := p.Give(at(0, 0, 3, 5), at(2, 0, 1, 0)); e != api.OK || !slices.Equal(p.Free(), whole()) {
		t.Error(e, told(p))
	}
}

// P3.1 and P3.2: every slot of a small spot, in every state of it: drained or not, each Gpu and each Cpu free or taken.
func TestEverySlot(t *testing.T) {
	c := cluster(node(api.Domain{}, api.Domain{Gpus: 2, Cpus: 2}), node(api.Domain{Gpus: 2, Cpus: 2}))
	for m := range uint64(4) {
		for n := range 3 {
			for k := range 2 {
				for try := range 9 * 6 * 4 * 2 {
					p, s := made(t, c), slowMade(c)
					held := at(0, 1, m, n)
					take(t, p, held)
					s.take([]api.Slot{held})
					if k == 1 {
						drain(t, p, 0)
						s.drained[0] = true
					}
					x := at(try%2, try/2%2, uint64(try/4%9), try/36%6-1)
					call, slow := p.Take, s.take
					if try/216 == 1 {
						call, slow = p.Give, s.give
					}
					if e, want := call(x), slow([]api.Slot{x}); e != want || told(p) != s.told() {
						t.Fatalf("%v taken, drained %d, give %d, %v: %d, want %d: %s", held, k, try/216, x, e, want, told(p))
					}
				}
			}
		}
	}
}

// P3.3: Drain, Undrain and Drained, node by node.
func TestDrain(t *testing.T) {
	p := made(t, mixed())
	take(t, p, at(0, 0, 1, 1))
	was := told(p)
	for n := range 3 {
		if p.Drained(n) || p.Undrain(n) != api.ErrNone || p.Drained(n) {
			t.Error(n, "is drained at first")
		}
		if told(p) != was {
			t.Error(told(p))
		}
		if e := p.Drain(n); e != api.OK {
			t.Error(n, e)
		}
		for k := range 3 {
			if p.Drained(k) != (k == n) {
				t.Error(n, k, "is drained?")
			}
		}
		if !slices.Equal(p.Free(), append([]api.Free{free(0, 0, 14, 7)}, whole()[1:]...)) || p.Out() != (api.Units{Gpus: 1, Cpus: 1}) {
			t.Error(told(p))
		}
		now := told(p)
		if e := p.Drain(n); e != api.ErrTwice || told(p) != now {
			t.Error(n, e, told(p))
		}
		if e := p.Undrain(n); e != api.OK || p.Drained(n) || told(p) != was {
			t.Error(n, e, told(p))
		}
		if e := p.Undrain(n); e != api.ErrNone || told(p) != was {
			t.Error(n, e, told(p))
		}
		// Once more, so that what was undrained can be drained.
		if p.Drain(n) != api.OK || !p.Drained(n) || p.Undrain(n) != api.OK || told(p) != was {
			t.Error(n, told(p))
		}
	}
}

// P3.3: nodes that aren't there, first while no node is drained, then while all are.
func TestDrainWrong(t *testing.T) {
	for _, c := range []api.Cluster{mixed(), even(1, 1, api.Domain{}), even(16, 4, api.Domain{Gpus: 1, Cpus: 1})} {
		p := made(t, c)
		refuseNodes(t, p, len(c.Nodes))
		for n := range c.Nodes {
			drain(t, p, n)
		}
		refuseNodes(t, p, len(c.Nodes))
	}
}

// refuseNodes asks a pool of so many nodes to drain and undrain others.
func refuseNodes(t *testing.T, p *pool.Pool, nodes int) {
	t.Helper()
	was := told(p)
	for _, n := range []int{-1, -2, -16, nodes, nodes + 1, 16, 17, 64, 1 << 32, math.MinInt, math.MaxInt} {
		if e := p.Drain(n); e != api.ErrRange {
			t.Errorf("Drain(%d) = %d", n, e)
		}
		if e := p.Undrain(n); e != api.ErrRange {
			t.Errorf("Undrain(%d) = %d", n, e)
		}
		if p.Drained(n) || told(p) != was {
			t.Errorf("%d: %s, was %s", n, told(p), was)
		}
	}
}

// P3.1 and P3.3: of a drained node nothing is taken, of others it is; of one that is undrained it is again.
func TestDrainedIsNotTaken(t *testing.T) {
	p := made(t, mixed())
	drain(t, p, 0)
	for _, s := range []api.Slot{at(0, 0, 0, 0), at(0, 0, 1, 1), at(0, 1, 0, 1)} {
		if e := p.Take(s); e != api.ErrState {
			t.Errorf("Take(%v) = %d", s, e)
		}
	}
	take(t, p, at(1, 0, 1, 1), at(2, 2, 1, 1))
	if e := p.Take(at(1, 0, 2, 1), at(0, 0, 1, 1)); e != api.ErrState || p.Out() != (api.Units{Gpus: 2, Cpus: 2}) {
		t.Error(e, told(p))
	}
	if e := p.Undrain(0); e != api.OK {
		t.Error(e)
	}
	take(t, p, at(0, 0, 1, 1), at(0, 1, 0, 1))
}

// P3.4: Free has all spots, View those whose nodes aren't drained; both rise.
func TestFreeAndView(t *testing.T) {
	p := made(t, mixed())
	take(t, p, at(2, 0, 2, 0), at(0, 0, 9, 2), at(1, 0, 255, 1000))
	all := []api.Free{free(0, 0, 6, 6), free(0, 1, 0, 6), free(1, 0, 65280, 24), free(2, 0, 5, 0), free(2, 1, 0, 0), free(2, 2, 1, 1)}
	for _, x := range []struct {
		drained []int
		view    []api.Free
	}{
		{nil, all},
		{[]int{0}, all[2:]},
		{[]int{1}, append(slices.Clone(all[:2]), all[3:]...)},
		{[]int{2}, all[:3]},
		{[]int{2, 0}, all[2:3]},
		{[]int{1, 0}, all[3:]},
		{[]int{0, 2, 1}, nil},
	} {
		for _, n := range x.drained {
			drain(t, p, n)
		}
		if l := p.View(); !slices.Equal(l, x.view) {
			t.Errorf("View with %v drained = %v, want %v", x.drained, l, x.view)
		}
		if l := p.Free(); !slices.Equal(l, all) {
			t.Errorf("Free with %v drained = %v, want %v", x.drained, l, all)
		}
		if u := p.Out(); u != (api.Units{Gpus: 11, Cpus: 1002}) {
			t.Errorf("Out with %v drained = %v", x.drained, u)
		}
		for _, n := range x.drained {
			p.Undrain(n)
		}
	}
}

// P3.4: Out of the greatest cluster there may be.
func TestOutOfAll(t *testing.T) {
	c := even(16, 4, api.Domain{Gpus: 16, Cpus: 1024})
	p := made(t, c)
	var slots []api.Slot
	for n := range 16 {
		for d := range 4 {
			slots = append(slots, at(n, d, 65535, 1024))
		}
	}
	take(t, p, slots...)
	if u := p.Out(); u != (api.Units{Gpus: 1024, Cpus: 65536}) {
		t.Error(u)
	}
	for _, f := range p.Free() {
		if f.Mask != 0 || f.Cpus != 0 {
			t.Error(f)
		}
	}
	if e := p.Give(slots...); e != api.OK || p.Out() != (api.Units{}) {
		t.Error(e, p.Out())
	}
}

// drawnSlot is a slot, mostly of a spot that is there, with few units.
func drawnSlot(d *draws, spots []api.Spot) api.Slot {
	s := api.Slot{Spot: spots[d.below(len(spots))]}
	for range d.below(3) {
		s.Mask |= 1 << d.below(5)
	}
	s.Cpus = d.below(4)
	switch d.below(60) {
	case 0:
		s.Cpus = -s.Cpus
	case 1:
		s.Spot.Node = d.below(5) - 1
	case 2:
		s.Spot.Domain = d.below(5) - 1
	case 3:
		s.Mask = 1 << d.below(64)
	case 4:
		s.Cpus = []int{math.MaxInt, math.MaxInt - 3, math.MinInt, 1024, 1025}[d.below(5)]
	}
	return s
}

// P3.1 to P3.5: a long row of calls, each held against a pool that asks each unit for itself.
func TestLongRow(t *testing.T) {
	c := mixed()
	for seed := range 20 {
		d := draws(seed + 1)
		p, s := made(t, c), slowMade(c)
		var held []api.Slot
		for step := range 600 {
			var slots []api.Slot
			for range d.below(4) {
				slots = append(slots, drawnSlot(&d, s.spots))
			}
			n := d.below(3)
			switch k := d.below(10); {
			case k < 5:
				e, want := p.Take(slots...), s.take(slots)
				if e != want {
					t.Fatalf("%d, %d: Take(%v) = %d, want %d", seed, step, slots, e, want)
				}
				if e == api.OK {
					held = append(held, slots...)
				}
			case k < 6:
				// Units of others, if they are taken: what they hold is then given back in vain.
				if e, want := p.Give(slots...), s.give(slots); e != want {
					t.Fatalf("%d, %d: Give(%v) = %d, want %d", seed, step, slots, e, want)
				}
			case k < 8 && len(held) > 0:
				i := d.below(len(held))
				if e, want := p.Give(held[i:]...), s.give(held[i:]); e != want {
					t.Fatalf("%d, %d: Give(%v) = %d, want %d", seed, step, held[i:], e, want)
				}
				held = held[:i]
			case k == 8 && p.Drain(n) == api.OK:
				s.drained[n] = true
			case k == 9 && p.Undrain(n) == api.OK:
				s.drained[n] = false
			}
			if told(p) != s.told() {
				t.Fatalf("%d, %d: %s, want %s", seed, step, told(p), s.told())
			}
			allThere(t, p)
		}
	}
}

// allThere: what is free lies within mixed(), and with what is taken it is all of it.
func allThere(t *testing.T, p *pool.Pool) {
	t.Helper()
	out := p.Out()
	sum := out
	for i, f := range p.Free() {
		w := whole()[i]
		if f.Spot != w.Spot || f.Mask&^w.Mask != 0 || f.Cpus < 0 || f.Cpus > w.Cpus {
			t.Fatal(f, w)
		}
		sum.Gpus += bits.OnesCount64(f.Mask)
		sum.Cpus += f.Cpus
	}
	if sum != (api.Units{Gpus: 24, Cpus: 1039}) || out.Gpus < 0 || out.Cpus < 0 {
		t.Fatal(sum, out)
	}
}

// P3.5: each Gpu and each Cpu is taken just once till it is given back.
func TestNoUnitTwice(t *testing.T) {
	p := made(t, mixed())
	allThere(t, p)
	for _, w := range whole() {
		var units []api.Slot
		for g := range bits.Len64(w.Mask) {
			units = append(units, api.Slot{Spot: w.Spot, Mask: 1 << g})
		}
		for range w.Cpus {
			units = append(units, api.Slot{Spot: w.Spot, Cpus: 1})
		}
		for _, u := range units {
			take(t, p, u)
			allThere(t, p)
		}
		for g := range 64 {
			if e := p.Take(api.Slot{Spot: w.Spot, Mask: 1 << g}); e != api.ErrBusy {
				t.Errorf("Gpu %d of %v: %d", g, w.Spot, e)
			}
		}
		if e := p.Take(api.Slot{Spot: w.Spot, Cpus: 1}); e != api.ErrBusy {
			t.Errorf("Cpu of %v: %d", w.Spot, e)
		}
	}
	if u := p.Out(); u != (api.Units{Gpus: 24, Cpus: 1039}) {
		t.Error(u)
	}
}

// P3.4 and rule 3: what is told can be written into without changing what is told later.
func TestAnswersAreNew(t *testing.T) {
	p := made(t, mixed())
	take(t, p, at(0, 0, 3, 4))
	for k := range 3 {
		was := told(p)
		lists := [][]api.Free{p.Free(), p.View(), p.Free(), p.View()}
		for i, l := range lists {
			for j := range l {
				l[j] = free(9, i, 9, 9)
			}
			_ = append(l, free(8, i, 8, 8))
			if len(l) > 0 {
				_ = append(l[:1], free(7, i, 7, 7))
			}
			for _, other := range lists[i+1:] {
				if slices.ContainsFunc(other, func(f api.Free) bool { return f.Spot.Node > 2 }) {
					t.Fatal(k, i, other)
				}
			}
		}
		if told(p) != was {
			t.Errorf("%d: %s, was %s", k, told(p), was)
		}
		if e := p.Take(at(7, 0, 0, 0)); e != api.ErrNone || told(p) != was {
			t.Errorf("%d: %d, %s, was %s", k, e, told(p), was)
		}
		drain(t, p, k)
	}
}

// Rule 3: what was told stays as it was told, whatever is done to the pool.
func TestAnswersStay(t *testing.T) {
	p := made(t, mixed())
	all, view := p.Free(), p.View()
	take(t, p, at(0, 0, 15, 8), at(1, 0, 3, 3))
	p.Take(at(0, 1, 0, 1), at(0, 0, 1, 1))
	p.Give(at(1, 0, 1, 1))
	drain(t, p, 0)
	if !slices.Equal(all, whole()) || !slices.Equal(view, whole()) {
		t.Error(all, view)
	}
}

// Rule 3: slots and clusters that are handed in are not changed, their spare room neither, and not kept.
func TestArgumentsAreLeft(t *testing.T) {
	c := mixed()
	p := made(t, c)
	if fmt.Sprint(c) != fmt.Sprint(mixed()) {
		t.Error(c)
	}
	for i := range c.Nodes {
		for k := range c.Nodes[i].Domains {
			c.Nodes[i].Domains[k] = api.Domain{Gpus: 1, Cpus: 1}
		}
	}
	c.Nodes[0] = api.Node{}
	slots := []api.Slot{at(0, 0, 3, 4), at(1, 0, 1, 1), at(2, 0, 1, 0), at(9, 9, 9, 9)}
	want := slices.Clone(slots)
	take(t, p, slots[:3]...)
	p.Take(slots...)
	p.Give(slots...)
	if !slices.Equal(slots, want) {
		t.Error(slots)
	}
	was := told(p)
	for i := range slots {
		slots[i] = at(0, 1, 0, 6)
	}
	if told(p) != was {
		t.Error(told(p), was)
	}
	if e := p.Give(want[:3]...); e != api.OK || !slices.Equal(p.Free(), whole()) {
		t.Error(e, told(p))
	}
}

// Rule 4: a pool tells its own units only, whatever is done to others beside it.
func TestPoolsAreApart(t *testing.T) {
	a, b := made(t, mixed()), made(t, mixed())
	take(t, a, at(0, 0, 15, 8))
	drain(t, a, 1)
	if told(b) != slowMade(mixed()).told() || told(made(t, mixed())) != told(b) {
		t.Error(told(b))
	}
	take(t, b, at(0, 0, 1, 1), at(1, 0, 1, 1))
	if a.Out() != (api.Units{Gpus: 4, Cpus: 8}) || !a.Drained(1) || b.Drained(1) {
		t.Error(told(a), told(b))
	}
}
