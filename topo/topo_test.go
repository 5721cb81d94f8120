package topo_test

import (
	"math"
	"slices"
	"testing"

	"ensemble/api"
	"ensemble/topo"
)

// node is a node of such domains.
func node(domains ...api.Domain) api.Node { return api.Node{Domains: domains} }

// cluster is a cluster of such nodes.
func cluster(nodes ...api.Node) api.Cluster { return api.Cluster{Nodes: nodes} }

// even is a cluster of nodes of so many domains each, all alike.
func even(nodes, domains int, d api.Domain) api.Cluster {
	var c api.Cluster
	for range nodes {
		var n api.Node
		for range domains {
			n.Domains = append(n.Domains, d)
		}
		c.Nodes = append(c.Nodes, n)
	}
	return c
}

// mixed is three nodes of 2, 1 and 3 domains, no two domains alike.
func mixed() api.Cluster {
	return cluster(
		node(api.Domain{Gpus: 2, Cpus: 8}, api.Domain{Gpus: 0, Cpus: 4}),
		node(api.Domain{Gpus: 16, Cpus: 1024}),
		node(api.Domain{Gpus: 1, Cpus: 0}, api.Domain{}, api.Domain{Gpus: 5, Cpus: 1}),
	)
}

// samples: clusters that may be: the chapter's edges, and nodes of every number of domains.
func samples() []api.Cluster {
	l := []api.Cluster{mixed()}
	for _, d := range []api.Domain{{}, {Gpus: 16}, {Cpus: 1024}, {Gpus: 16, Cpus: 1024}, {Gpus: 1, Cpus: 1}, {Gpus: 15, Cpus: 1023}} {
		for n := 1; n <= 16; n++ {
			for k := 1; k <= 4; k++ {
				l = append(l, even(n, k, d))
			}
		}
	}
	for from := range 4 {
		var c api.Cluster
		for i := range 16 {
			var n api.Node
			for k := range (i+from)%4 + 1 {
				n.Domains = append(n.Domains, api.Domain{Gpus: (5*i + 3*k + from) % 17, Cpus: (131*i + 977*k + from) % 1025})
			}
			c.Nodes = append(c.Nodes, n)
		}
		l = append(l, c)
	}
	return l
}

// slowMask adds up the worths of the units 0 to n - 1.
func slowMask(n int) uint64 {
	var m uint64
	for k := range n {
		m += 1 << k
	}
	return m
}

// slowAll is what is in all spots of c, node by node, domain by domain.
func slowAll(c api.Cluster) []api.Free {
	var l []api.Free
	for i, n := range c.Nodes {
		for k, d := range n.Domains {
			l = append(l, api.Free{Spot: api.Spot{Node: i, Domain: k}, Mask: slowMask(d.Gpus), Cpus: d.Cpus})
		}
	}
	return l
}

func made(t *testing.T, c api.Cluster) *topo.Topo {
	t.Helper()
	x, e := topo.New(c)
	if x == nil || e != api.OK {
		t.Fatalf("New(%v) = %v, %d", c, x, e)
	}
	return x
}

// wrongSpots: no cluster that may be has one of them.
func wrongSpots() []api.Spot {
	l := []api.Spot{{Node: -1, Domain: -1}}
	for _, k := range []int{-1, -16, 16, 17, 1 << 32, math.MinInt, math.MaxInt} {
		l = append(l, api.Spot{Node: k}, api.Spot{Node: k, Domain: 1})
	}
	for _, k := range []int{-1, -4, 4, 5, 16, 1 << 32, math.MinInt, math.MaxInt} {
		l = append(l, api.Spot{Domain: k}, api.Spot{Node: 1, Domain: k})
	}
	return l
}

// P2.1: the chapter's example.
func TestExample(t *testing.T) {
	x := made(t, cluster(node(api.Domain{}, api.Domain{}), node(api.Domain{})))
	if l := x.Spots(); !slices.Equal(l, []api.Spot{{}, {Domain: 1}, {Node: 1}}) {
		t.Error(l)
	}
}

// P2.1: clusters that may not be.
func TestNewWrong(t *testing.T) {
	right := api.Domain{Gpus: 4, Cpus: 8}
	for i, c := range []api.Cluster{
		{},
		{Nodes: []api.Node{}},
		even(17, 1, right),
		even(17, 4, right),
		even(100, 1, right),
		cluster(node()),
		even(16, 0, right),
		cluster(node(right), api.Node{Domains: []api.Domain{}}, node(right)),
		cluster(node(), node(right)),
		cluster(node(right), node()),
		even(1, 5, right),
		even(16, 5, right),
		even(1, 100, right),
	} {
		if x, e := topo.New(c); x != nil || e != api.ErrRange {
			t.Errorf("%d: New = %v, %d", i, x, e)
		}
	}
}

// P2.1: one domain that may not be, wherever it stands, is enough.
func TestNewWrongDomain(t *testing.T) {
	right := api.Domain{Gpus: 16, Cpus: 1024}
	var wrong []api.Domain
	for _, k := range []int{-1, -16, math.MinInt, 17, 64, 65, 1 << 32, math.MaxInt} {
		wrong = append(wrong, api.Domain{Gpus: k}, api.Domain{Gpus: k, Cpus: 1024})
	}
	for _, k := range []int{-1, -1024, math.MinInt, 1025, 1 << 32, math.MaxInt} {
		wrong = append(wrong, api.Domain{Cpus: k}, api.Domain{Gpus: 16, Cpus: k})
	}
	wrong = append(wrong, api.Domain{Gpus: -1, Cpus: -1}, api.Domain{Gpus: 17, Cpus: 1025})
	for _, d := range wrong {
		for i := range 16 {
			for k := range 4 {
				c := even(16, 4, right)
				c.Nodes[i].Domains[k] = d
				if x, e := topo.New(c); x != nil || e != api.ErrRange {
					t.Errorf("New with %v at %d %d = %v, %d", d, i, k, x, e)
				}
			}
		}
		if x, e := topo.New(cluster(node(d))); x != nil || e != api.ErrRange {
			t.Errorf("New of %v alone = %v, %d", d, x, e)
		}
	}
}

// P2.1: one node of too few or too many domains, wherever it stands, is enough.
func TestNewWrongNode(t *testing.T) {
	for _, k := range []int{0, 5, 6} {
		for i := range 16 {
			c := even(16, 4, api.Domain{Gpus: 1, Cpus: 1})
			c.Nodes[i].Domains = make([]api.Domain, k)
			if x, e := topo.New(c); x != nil || e != api.ErrRange {
				t.Errorf("New with %d domains in node %d = %v, %d", k, i, x, e)
			}
		}
	}
}

// P2.1: every number of Gpus and of Cpus that may be.
func TestNewRight(t *testing.T) {
	for g := range 17 {
		for p := range 1025 {
			x := made(t, cluster(node(api.Domain{Gpus: g, Cpus: p})))
			if f, e := x.At(api.Spot{}); f != (api.Free{Mask: slowMask(g), Cpus: p}) || e != api.OK {
				t.Errorf("%d, %d: At = %v, %d", g, p, f, e)
			}
		}
	}
}

// P2.1: Spots and Nodes.
func TestSpots(t *testing.T) {
	want := []api.Spot{{}, {Domain: 1}, {Node: 1}, {Node: 2}, {Node: 2, Domain: 1}, {Node: 2, Domain: 2}}
	if x := made(t, mixed()); !slices.Equal(x.Spots(), want) || x.Nodes() != 3 {
		t.Error(x.Spots(), x.Nodes())
	}
	for _, c := range samples() {
		x := made(t, c)
		var want []api.Spot
		for _, f := range slowAll(c) {
			want = append(want, f.Spot)
		}
		if l := x.Spots(); !slices.Equal(l, want) {
			t.Errorf("Spots of %v = %v", c, l)
		}
		if n := x.Nodes(); n != len(c.Nodes) {
			t.Errorf("Nodes of %v = %d", c, n)
		}
	}
}

// P2.1: Index tells where a spot stands among Spots.
func TestIndex(t *testing.T) {
	for _, c := range samples() {
		x := made(t, c)
		for want, f := range slowAll(c) {
			if k, ok := x.Index(f.Spot); k != want || !ok {
				t.Errorf("Index(%v) of %v = %d, %v, want %d", f.Spot, c, k, ok, want)
			}
		}
	}
}

// P2.1 and P2.2: a spot that isn't there has no number, and nothing is in it.
func TestNoSpot(t *testing.T) {
	none := func(x *topo.Topo, s api.Spot) {
		t.Helper()
		if k, ok := x.Index(s); k != 0 || ok {
			t.Errorf("Index(%v) = %d, %v", s, k, ok)
		}
		if f, e := x.At(s); f != (api.Free{}) || e != api.ErrNone {
			t.Errorf("At(%v) = %v, %d", s, f, e)
		}
	}
	for _, c := range samples() {
		x := made(t, c)
		for _, s := range wrongSpots() {
			none(x, s)
		}
		for i, n := range c.Nodes {
			none(x, api.Spot{Node: i, Domain: -1})
			none(x, api.Spot{Node: i, Domain: len(n.Domains)})
		}
		none(x, api.Spot{Node: len(c.Nodes)})
	}
}

// P2.2: At and All, of ordinary domains and of the edges.
func TestAtAndAll(t *testing.T) {
	want := []api.Free{
		{Spot: api.Spot{}, Mask: 3, Cpus: 8},
		{Spot: api.Spot{Domain: 1}, Mask: 0, Cpus: 4},
		{Spot: api.Spot{Node: 1}, Mask: 65535, Cpus: 1024},
		{Spot: api.Spot{Node: 2}, Mask: 1, Cpus: 0},
		{Spot: api.Spot{Node: 2, Domain: 1}, Mask: 0, Cpus: 0},
		{Spot: api.Spot{Node: 2, Domain: 2}, Mask: 31, Cpus: 1},
	}
	if l := made(t, mixed()).All(); !slices.Equal(l, want) {
		t.Error(l)
	}
	for _, c := range samples() {
		x := made(t, c)
		want := slowAll(c)
		if l := x.All(); !slices.Equal(l, want) {
			t.Errorf("All of %v = %v", c, l)
		}
		for _, w := range want {
			if f, e := x.At(w.Spot); f != w || e != api.OK {
				t.Errorf("At(%v) of %v = %v, %d", w.Spot, c, f, e)
			}
		}
	}
}

// P2.2: Total adds up both kinds, each for itself.
func TestTotal(t *testing.T) {
	for i, x := range []struct {
		c    api.Cluster
		want api.Units
	}{
		{mixed(), api.Units{Gpus: 24, Cpus: 1037}},
		{even(1, 1, api.Domain{}), api.Units{}},
		{even(16, 4, api.Domain{}), api.Units{}},
		{even(1, 1, api.Domain{Gpus: 16}), api.Units{Gpus: 16}},
		{even(1, 1, api.Domain{Cpus: 1024}), api.Units{Cpus: 1024}},
		{even(16, 4, api.Domain{Gpus: 16, Cpus: 1024}), api.Units{Gpus: 1024, Cpus: 65536}},
	} {
		if u := made(t, x.c).Total(); u != x.want {
			t.Errorf("%d: Total = %v, want %v", i, u, x.want)
		}
	}
	for _, c := range samples() {
		var want api.Units
		for _, n := range c.Nodes {
			for _, d := range n.Domains {
				want.Gpus += d.Gpus
				want.Cpus += d.Cpus
			}
		}
		if u := made(t, c).Total(); u != want {
			t.Errorf("Total of %v = %v, want %v", c, u, want)
		}
	}
}

// same asks all that a topology of mixed() tells.
func same(t *testing.T, x *topo.Topo) {
	t.Helper()
	want := slowAll(mixed())
	if !slices.Equal(x.All(), want) || x.Nodes() != 3 || x.Total() != (api.Units{Gpus: 24, Cpus: 1037}) {
		t.Error(x.All(), x.Nodes(), x.Total())
	}
	spots := x.Spots()
	if len(spots) != len(want) {
		t.Fatal(spots)
	}
	for i, w := range want {
		k, ok := x.Index(w.Spot)
		f, e := x.At(w.Spot)
		if spots[i] != w.Spot || k != i || !ok || f != w || e != api.OK {
			t.Error(i, spots[i], k, ok, f, e)
		}
	}
}

// P2.1, P2.2 and rule 3: what is told can be written into without changing what is told later.
func TestAnswersAreNew(t *testing.T) {
	x := made(t, mixed())
	spots, all := x.Spots(), x.All()
	moreSpots, moreAll := x.Spots(), x.All()
	for i := range spots {
		spots[i] = api.Spot{Node: 9, Domain: 9}
		all[i] = api.Free{Spot: api.Spot{Node: 9}, Mask: 9, Cpus: 9}
	}
	_ = append(spots[:1], api.Spot{Node: 8})
	_ = append(all[:1], api.Free{Cpus: 8})
	_ = append(spots, api.Spot{Node: 7})
	_ = append(all, api.Free{Cpus: 7})
	same(t, x)
	if !slices.Equal(moreAll, slowAll(mixed())) || moreSpots[0] != (api.Spot{}) || moreSpots[5] != (api.Spot{Node: 2, Domain: 2}) {
		t.Error(moreSpots, moreAll)
	}
	x.At(api.Spot{Node: 9})
	x.Index(api.Spot{Node: 9})
	same(t, x)
}

// P2.1, P2.2 and rule 3: what is handed in is not kept.
func TestClusterIsNotKept(t *testing.T) {
	c := mixed()
	x := made(t, c)
	for i := range c.Nodes {
		for k := range c.Nodes[i].Domains {
			c.Nodes[i].Domains[k] = api.Domain{Gpus: 7, Cpus: 7}
		}
		c.Nodes[i].Domains = c.Nodes[i].Domains[:1]
	}
	c.Nodes[0] = api.Node{}
	same(t, x)
}

// P2.1 and rule 3: what is handed in is not changed, its spare room neither.
func TestClusterIsNotChanged(t *testing.T) {
	spare := []api.Domain{{Gpus: 1, Cpus: 2}, {Gpus: 3, Cpus: 4}, {Gpus: 99, Cpus: 99}}
	nodes := []api.Node{{Domains: spare[:2]}, {Domains: spare[:1]}, {Domains: spare}}
	made(t, api.Cluster{Nodes: nodes[:2]})
	if x, e := topo.New(api.Cluster{Nodes: nodes}); x != nil || e != api.ErrRange {
		t.Error(x, e)
	}
	if !slices.Equal(spare, []api.Domain{{Gpus: 1, Cpus: 2}, {Gpus: 3, Cpus: 4}, {Gpus: 99, Cpus: 99}}) {
		t.Error(spare)
	}
	for i, k := range []int{2, 1, 3} {
		if len(nodes[i].Domains) != k || &nodes[i].Domains[0] != &spare[0] {
			t.Error(i, nodes[i])
		}
	}
}

// Rule 4: a topology tells its own cluster only, whatever others were made beside it.
func TestTopologiesAreApart(t *testing.T) {
	a := made(t, mixed())
	b := made(t, even(16, 4, api.Domain{Gpus: 16, Cpus: 1024}))
	same(t, a)
	if len(b.Spots()) != 64 || b.Nodes() != 16 {
		t.Error(b.Spots(), b.Nodes())
	}
	same(t, made(t, mixed()))
}
