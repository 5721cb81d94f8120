package wire_test

import (
	"math"
	"slices"
	"strings"
	"testing"

	"ensemble/api"
	"ensemble/wire"
)

// plain is a configuration with all that one can have, each number of which has bytes unlike all others; and its bytes, put together by hand.
func plain() api.Config {
	return api.Config{
		Cluster: api.Cluster{Nodes: []api.Node{{Domains: []api.Domain{{Gpus: 4, Cpus: 0x0506}, {Gpus: 7, Cpus: 0x0809}}}, {}, {Domains: []api.Domain{{Gpus: 10, Cpus: 0x0b0c}}}}},
		Queues:  []api.Queue{{Quota: api.Units{Gpus: 0x0d0e0f, Cpus: 0x101112}, Room: 0x13}, {Quota: api.Units{Gpus: 0x141516, Cpus: 0x171819}, Room: 0x1a}},
		Workers: 0x1b, Timeout: 0x1c, Runtime: 0x1d1e, Age: 0x1f20,
	}
}

const plainBytes = "\x03\x02\x04\x05\x06\x07\x08\x09\x00\x01\x0a\x0b\x0c" + "\x02\x0d\x0e\x0f\x10\x11\x12\x13\x14\x15\x16\x17\x18\x19\x1a" + "\x1b\x1c\x1d\x1e\x1f\x20"

// place is a number of the plain configuration, and how many bytes it has.
type place struct {
	of    func(*api.Config) *int
	width int
}

// places are all numbers that it has, but how many there are of something.
func places() []place {
	l := []place{
		{func(c *api.Config) *int { return &c.Workers }, 1}, {func(c *api.Config) *int { return &c.Timeout }, 1},
		{func(c *api.Config) *int { return &c.Runtime }, 2}, {func(c *api.Config) *int { return &c.Age }, 2},
	}
	for _, s := range []api.Spot{{Node: 0}, {Node: 0, Domain: 1}, {Node: 2}} {
		at := func(c *api.Config) *api.Domain { return &c.Cluster.Nodes[s.Node].Domains[s.Domain] }
		l = append(l, place{func(c *api.Config) *int { return &at(c).Gpus }, 1}, place{func(c *api.Config) *int { return &at(c).Cpus }, 2})
	}
	for k := range 2 {
		l = append(l, place{func(c *api.Config) *int { return &c.Queues[k].Quota.Gpus }, 3},
			place{func(c *api.Config) *int { return &c.Queues[k].Quota.Cpus }, 3}, place{func(c *api.Config) *int { return &c.Queues[k].Room }, 1})
	}
	return l
}

// P17.1, P17.2, P17.3: each number has its own bytes, in order.
func TestPlainConfig(t *testing.T) {
	if s, e := wire.PutConfig(plain()); s != plainBytes || e != api.OK {
		t.Errorf("%q %v", s, e)
	}
	if c, left, e := wire.Config(plainBytes); !same(c, plain()) || left != "" || e != api.OK {
		t.Error(c, left, e)
	}
}

// P17.1, P17.3: the one that has nothing is eight bytes, nil or empty lists alike.
func TestEmptyConfig(t *testing.T) {
	nothing := strings.Repeat("\x00", 8)
	for _, c := range []api.Config{{}, {Cluster: api.Cluster{Nodes: []api.Node{}}, Queues: []api.Queue{}}} {
		if s, e := putsConfig(t, c); s != nothing || e != api.OK {
			t.Errorf("%q %v", s, e)
		}
	}
	for _, n := range []api.Node{{}, {Domains: []api.Domain{}}} {
		if s, e := putsConfig(t, api.Config{Cluster: api.Cluster{Nodes: []api.Node{n, n}}}); s != "\x02\x00\x00\x00\x00\x00\x00\x00\x00\x00" || e != api.OK {
			t.Errorf("%q %v", s, e)
		}
	}
	if c, left, e := wire.Config(nothing + "\x05"); !same(c, api.Config{}) || left != "\x05" || e != api.OK {
		t.Error(c, left, e)
	}
	for n := range nothing {
		if e := readsConfig(t, nothing[:n]); e != api.ErrShort {
			t.Error(n, e)
		}
	}
}

// P17.1: each number at all its edges, alone and beside others that don't fit.
func TestEachNumber(t *testing.T) {
	edges := []int{0, 1, 127, 128, 255, 256, 257, 32768, 65535, 65536, 65537, 1 << 23, 1<<24 - 1, 1 << 24, 1<<24 + 1, 1<<31 - 1, 1 << 31, 1 << 32, 1<<32 + 1, 1 << 48, math.MaxInt, -1, -2, -255, -256, -65536, -1 << 24, -1 << 32, math.MinInt, math.MinInt + 1}
	for k, p := range places() {
		for _, x := range edges {
			c := plain()
			*p.of(&c) = x
			_, e := putsConfig(t, c)
			if fits := x >= 0 && x <= most(p.width); fits != (e == api.OK) || !fits && e != api.ErrRange {
				t.Fatal(k, x, e)
			}
			for i, q := range places() {
				for _, y := range []int{-1, most(q.width) + 1} {
					if i == k {
						continue
					}
					c := plain()
					*p.of(&c), *q.of(&c) = x, y
					if _, e := putsConfig(t, c); e != api.ErrRange {
						t.Fatal(k, x, i, y, e)
					}
				}
			}
		}
	}
}

// sized is a configuration of so many nodes, of domains in the last one, and of queues, all numbers of which are full.
func sized(nodes, domains, queues int) api.Config {
	c := api.Config{Workers: 255, Timeout: 255, Runtime: 65535, Age: 65535}
	c.Cluster.Nodes = make([]api.Node, nodes)
	for range domains {
		l := &c.Cluster.Nodes[nodes-1].Domains
		*l = append(*l, api.Domain{Gpus: 255, Cpus: 65535})
	}
	for range queues {
		c.Queues = append(c.Queues, api.Queue{Quota: api.Units{Gpus: 1<<24 - 1, Cpus: 1<<24 - 1}, Room: 255})
	}
	return c
}

// P17.1, P17.3: as many as one byte tells may be, of nodes, domains and queues, and no more; 256 aren't none.
func TestHowMany(t *testing.T) {
	edges := []int{1, 2, 254, 255, 256, 257, 512, 65536}
	for _, n := range edges {
		want := api.OK
		if n > 255 {
			want = api.ErrRange
		}
		for _, c := range []api.Config{sized(n, 0, 0), sized(n, 2, 2), sized(1, n, 0), sized(3, n, 1), sized(1, 0, n), sized(2, 2, n), sized(n, n, n), sized(255, n, 255)} {
			if _, e := putsConfig(t, c); e != want {
				t.Error(n, e)
			}
		}
	}
	// The greatest there is: 255 nodes of 255 domains.
	c := sized(255, 255, 255)
	for k := range c.Cluster.Nodes {
		c.Cluster.Nodes[k].Domains = c.Cluster.Nodes[254].Domains
	}
	s, e := putsConfig(t, c)
	if len(s) != 1+255*(1+255*3)+1+255*7+6 || e != api.OK {
		t.Error(len(s), e)
	}
	if is, left, e := wire.Config(s + plainBytes); !same(is, c) || left != plainBytes || e != api.OK {
		t.Error(len(left), e)
	}
	for _, n := range []int{0, 1, 2, 255, 767, len(s) / 2, len(s) - 7, len(s) - 6, len(s) - 1} {
		if e := readsConfig(t, s[:n]); e != api.ErrShort {
			t.Error(n, e)
		}
	}
}

// P17.2: cut off at each place it is ErrShort, and nothing else is told.
func TestCutConfig(t *testing.T) {
	for n := range plainBytes {
		c, left, e := wire.Config(plainBytes[:n])
		if !same(c, api.Config{}) || left != "" || e != api.ErrShort {
			t.Error(n, c, left, e)
		}
	}
	// More of something is told than there is.
	for _, s := range []string{"\xff", "\xff\xff\xff\xff\xff", strings.Repeat("\xff", 1000), "\x00\xff" + strings.Repeat("\x00", 1000), "\x01\xff" + strings.Repeat("\x00", 760)} {
		if e := readsConfig(t, s); e != api.ErrShort {
			t.Error(len(s), e)
		}
	}
}

// P17.2, P17.3: what stands behind a configuration is left, just as it is, and plays no part.
func TestLeft(t *testing.T) {
	behind := []string{"", "\x00", "\x05", "\xff", each, plainBytes, plainBytes[:9], strings.Repeat("\x00", 99), strings.Repeat("\xff", 99)}
	for _, x := range behind {
		for n := range len(x) + 1 {
			c, left, e := wire.Config(plainBytes + x[:n])
			if !same(c, plain()) || left != x[:n] || e != api.OK {
				t.Errorf("%q: %v %q %v", x[:n], c, left, e)
			}
		}
	}
	_, left, _ := wire.Config(plainBytes + each)
	tells(t, left, eachAct()...)
	_, left, _ = wire.Config(plainBytes + plainBytes + "\x07")
	if c, left, e := wire.Config(left); !same(c, plain()) || left != "\x07" || e != api.OK {
		t.Error(c, left, e)
	}
}

// P17.1, P17.2, P17.3: drawn configurations, and drawn bytes.
func TestDrawnConfigs(t *testing.T) {
	d := draws(172)
	count := map[api.Errno]int{}
	for range 20000 {
		s, e := putsConfig(t, d.config(d.of(0, 0, 2)))
		count[e]++
		if e != api.OK {
			continue
		}
		n := d.below(len(s) + 1)
		count[readsConfig(t, s[:n])]++
		readsConfig(t, s+each[:d.below(len(each))])
		// Any byte may be another one.
		turned := []byte(s)
		turned[d.below(len(s))] = byte(d.below(256))
		count[readsConfig(t, string(turned)+s)]++
	}
	if count[api.OK] < 15000 || count[api.ErrRange] < 1000 || count[api.ErrShort] < 12000 {
		t.Error(count)
	}
	// All that begins with few of something.
	for a := range 4 {
		for b := range 4 {
			for n := range 40 {
				readsConfig(t, string([]byte{byte(a), byte(b)})+strings.Repeat("\x01", n))
				readsConfig(t, string([]byte{byte(a), byte(b)})+strings.Repeat("\x00", n))
			}
		}
	}
}

// roomy is the plain one, whose lists have room behind them, with marks in it.
func roomy() api.Config {
	c := plain()
	c.Cluster.Nodes = append(c.Cluster.Nodes, api.Node{Domains: []api.Domain{{Gpus: 77}}})[:3]
	c.Queues = append(c.Queues, api.Queue{Room: 77})[:2]
	for k := range c.Cluster.Nodes {
		l := &c.Cluster.Nodes[k].Domains
		*l = append(*l, api.Domain{Gpus: 77})[:len(*l)]
	}
	return c
}

// unchanged tells whether it is as roomy made it.
func unchanged(c api.Config) bool {
	if !same(c, plain()) || c.Cluster.Nodes[:4][3].Domains[0].Gpus != 77 || c.Queues[:3][2].Room != 77 {
		return false
	}
	for _, n := range c.Cluster.Nodes {
		if k := len(n.Domains); n.Domains[:k+1][k].Gpus != 77 {
			return false
		}
	}
	return true
}

// Rule 3: a configuration's lists are neither changed nor kept, their spare room neither; those that are told are new, and no two share any.
func TestConfigsAreNew(t *testing.T) {
	c := roomy()
	s, _ := wire.PutConfig(c)
	if !unchanged(c) {
		t.Error(c)
	}
	a, _, _ := wire.Config(s)
	b, _, _ := wire.Config(s)
	clear(c.Queues[:3])
	clear(c.Cluster.Nodes[0].Domains[:3])
	clear(c.Cluster.Nodes[:4])
	if s != plainBytes || !same(a, plain()) {
		t.Errorf("%q %v", s, a)
	}
	// Were two lists of the answer one piece of memory, one more in the first would be seen in the second.
	for k := range a.Cluster.Nodes {
		l := &a.Cluster.Nodes[k].Domains
		*l = append(*l, api.Domain{Gpus: 88})
	}
	for k, n := range plain().Cluster.Nodes {
		if is := a.Cluster.Nodes[k].Domains; !slices.Equal(is[:len(is)-1], n.Domains) {
			t.Error(k, is)
		}
	}
	clear(a.Queues)
	clear(a.Cluster.Nodes)
	again, _, _ := wire.Config(s)
	if !same(b, plain()) || !same(again, plain()) {
		t.Error(b, again)
	}
}
