package script_test

import (
	"slices"
	"strings"
	"testing"

	"ensemble/api"
	"ensemble/sched"
	"ensemble/script"
	"ensemble/wire"
)

// small is a configuration in which there is of everything as little as there may be.
func small() api.Config {
	return api.Config{
		Cluster: api.Cluster{Nodes: []api.Node{{Domains: []api.Domain{{}}}}},
		Queues:  []api.Queue{{}}, Workers: 1, Runtime: 1, Age: 1,
	}
}

// large is one in which there is of everything as much as there may be.
func large() api.Config {
	var n api.Node
	for range 4 {
		n.Domains = append(n.Domains, api.Domain{Gpus: 16, Cpus: 1024})
	}
	q := api.Queue{Quota: api.Units{Gpus: 1 << 20, Cpus: 1 << 20}, Room: 16}
	c := api.Config{Queues: slices.Repeat([]api.Queue{q}, 8), Workers: 4, Timeout: 64, Runtime: 1024, Age: 1024}
	for range 16 {
		c.Cluster.Nodes = append(c.Cluster.Nodes, api.Node{Domains: slices.Clone(n.Domains)})
	}
	return c
}

// part is a part of a configuration: how it is changed, and from what to what it may be.
type part struct {
	name        string
	turn        func(c *api.Config, n int)
	least, most int
}

// parts are all that there are, of lists the first and the last ones.
func parts() []part {
	node := func(c *api.Config) *api.Node { return &c.Cluster.Nodes[len(c.Cluster.Nodes)-1] }
	domain := func(c *api.Config) *api.Domain { return &node(c).Domains[len(node(c).Domains)-1] }
	queue := func(c *api.Config) *api.Queue { return &c.Queues[len(c.Queues)-1] }
	return []part{
		{"Workers", func(c *api.Config, n int) { c.Workers = n }, 1, 4},
		{"Timeout", func(c *api.Config, n int) { c.Timeout = n }, 0, 64},
		{"Runtime", func(c *api.Config, n int) { c.Runtime = n }, 1, 1024},
		{"Age", func(c *api.Config, n int) { c.Age = n }, 1, 1024},
		{"nodes", func(c *api.Config, n int) { c.Cluster.Nodes = slices.Repeat(c.Cluster.Nodes[:1], n) }, 1, 16},
		{"first domains", func(c *api.Config, n int) {
			l := &c.Cluster.Nodes[0].Domains
			*l = slices.Repeat((*l)[:1], n)
		}, 1, 4},
		{"last domains", func(c *api.Config, n int) { node(c).Domains = slices.Repeat(node(c).Domains[:1], n) }, 1, 4},
		{"first Gpus", func(c *api.Config, n int) { c.Cluster.Nodes[0].Domains[0].Gpus = n }, 0, 16},
		{"first Cpus", func(c *api.Config, n int) { c.Cluster.Nodes[0].Domains[0].Cpus = n }, 0, 1024},
		{"last Gpus", func(c *api.Config, n int) { domain(c).Gpus = n }, 0, 16},
		{"last Cpus", func(c *api.Config, n int) { domain(c).Cpus = n }, 0, 1024},
		{"queues", func(c *api.Config, n int) { c.Queues = slices.Repeat(c.Queues[:1], n) }, 1, 8},
		{"first quota's Gpus", func(c *api.Config, n int) { c.Queues[0].Quota.Gpus = n }, 0, 1 << 20},
		{"first quota's Cpus", func(c *api.Config, n int) { c.Queues[0].Quota.Cpus = n }, 0, 1 << 20},
		{"first Room", func(c *api.Config, n int) { c.Queues[0].Room = n }, 0, 16},
		{"last quota's Gpus", func(c *api.Config, n int) { queue(c).Quota.Gpus = n }, 0, 1 << 20},
		{"last quota's Cpus", func(c *api.Config, n int) { queue(c).Quota.Cpus = n }, 0, 1 << 20},
		{"last Room", func(c *api.Config, n int) { queue(c).Room = n }, 0, 16},
	}
}

// P18.1, P18.2: each part of a configuration at its edges, and one below and one above them, the others being small or large; entries behind it play no part.
func TestConfigEdges(t *testing.T) {
	behind := entries(submit(api.Job{Id: 1, Runtime: 1, Shape: api.Shape{Cpus: 1, Min: 1, Max: 2}}), pick(0), pick(0), tick(), pick(3))
	for _, p := range parts() {
		for _, base := range []func() api.Config{small, large} {
			for _, n := range []int{p.least, p.most} {
				c := base()
				p.turn(&c, n)
				if r, e := script.New(head(c)); r == nil || e != api.OK {
					t.Fatal(p.name, n, e)
				}
				runs(t, c, behind)
			}
			for _, n := range []int{p.least - 1, p.most + 1} {
				// Below 0 there are no bytes.
				if n < 0 {
					continue
				}
				c := base()
				p.turn(&c, n)
				for _, behind := range []string{"", "\x05", "\xff", behind} {
					refuses(t, head(c)+behind, api.ErrRange)
				}
			}
		}
	}
}

// P18.1: as great as the bytes hold is no less than too great.
func TestConfigOfFullBytes(t *testing.T) {
	full := []int{255, 255, 65535, 65535, 255, 255, 255, 255, 65535, 255, 65535, 255, 1<<24 - 1, 1<<24 - 1, 255, 1<<24 - 1, 1<<24 - 1, 255}
	for k, p := range parts() {
		c := small()
		p.turn(&c, full[k])
		refuses(t, head(c), api.ErrRange)
		refuses(t, head(c)+"\x05", api.ErrRange)
		refuses(t, head(c)[:len(head(c))-1], api.ErrShort)
	}
}

// P18.1: without bytes, and with too few of them, there is no configuration, whether it may be or not.
func TestShortConfigs(t *testing.T) {
	refuses(t, "", api.ErrShort)
	wrong := large()
	wrong.Workers, wrong.Queues[0].Room, wrong.Cluster.Nodes[0].Domains = 5, 17, nil
	for _, c := range []api.Config{small(), large(), config(), wrong, {}} {
		s := head(c)
		for n := range s {
			refuses(t, s[:n], api.ErrShort)
		}
	}
	refuses(t, head(api.Config{}), api.ErrRange)
	refuses(t, strings.Repeat("\xff", 1000), api.ErrShort)
	refuses(t, strings.Repeat("\x00", 7), api.ErrShort)
	refuses(t, strings.Repeat("\x00", 1000), api.ErrRange)
}

// P18.1: any one byte of a configuration is taken out: it is too short, or what is behind it is a part of it then.
func TestConfigWithoutAByte(t *testing.T) {
	s := head(config())
	count := map[api.Errno]int{}
	for k := range s {
		for _, behind := range []string{"", "\x06", "\x06\x01\x05", life} {
			left := s[:k] + s[k+1:] + behind
			c, rest, e := wire.Config(left)
			if e == api.OK {
				_, e = sched.New(c)
			}
			if count[e]++; e == api.OK {
				runs(t, c, rest)
				continue
			}
			refuses(t, left, e)
		}
	}
	if count[api.OK] < 4 || count[api.ErrRange] < 20 || count[api.ErrShort] < 20 {
		t.Error(count)
	}
	// Without the last byte, a 4, the first entry's Kind is the Age's.
	c := config()
	c.Age = api.Pick
	r, e := script.New(s[:len(s)-1] + entries(pick(5), tick()))
	if e != api.OK || r.Left() != 2 || !sameConfig(r.Config(), c) {
		t.Error(r, e)
	}
}

// P18.1, P18.2: a configuration alone has no entries.
func TestNothingBehind(t *testing.T) {
	for _, c := range []api.Config{small(), large(), config()} {
		if l := runs(t, c, ""); len(l) != 0 {
			t.Error(l)
		}
		if played, e := script.Play(head(c)); played != "" || e != api.OK {
			t.Errorf("%q %v", played, e)
		}
		r, e := script.New(head(c))
		if e != api.OK || r.Left() != 0 {
			t.Fatal(e)
		}
		if is, ok := r.Step(); ok || !sameReply(is, api.Reply{}) || r.Left() != 0 {
			t.Error(is, ok)
		}
	}
}

// P18.1: drawn configurations' bytes, of which one is another one, and drawn cuts of them.
func TestDrawnConfigs(t *testing.T) {
	d := draws(181)
	for range 500 {
		c := d.config()
		s := head(c)
		runs(t, c, d.behind(c, d.below(4)))
		refuses(t, s[:d.below(len(s))], api.ErrShort)
		p := parts()[d.below(len(parts()))]
		p.turn(&c, p.most+1)
		refuses(t, head(c)+d.behind(config(), d.below(4)), api.ErrRange)
	}
}
