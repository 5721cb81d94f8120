package script_test

import (
	"encoding/binary"
	"math"
	"slices"
	"testing"

	"ensemble/api"
	"ensemble/sched"
	"ensemble/script"
)

// digits are the lowest bytes of a number, so many.
func digits(n, width int) string {
	return string(binary.BigEndian.AppendUint64(nil, uint64(n))[8-width:])
}

// head is a configuration's bytes, whether it may be or not.
func head(c api.Config) string {
	s := digits(len(c.Cluster.Nodes), 1)
	for _, n := range c.Cluster.Nodes {
		s += digits(len(n.Domains), 1)
		for _, d := range n.Domains {
			s += digits(d.Gpus, 1) + digits(d.Cpus, 2)
		}
	}
	s += digits(len(c.Queues), 1)
	for _, q := range c.Queues {
		s += digits(q.Quota.Gpus, 3) + digits(q.Quota.Cpus, 3) + digits(q.Room, 1)
	}
	return s + digits(c.Workers, 1) + digits(c.Timeout, 1) + digits(c.Runtime, 2) + digits(c.Age, 2)
}

// lengths are how many bytes an entry of each Kind has.
func lengths() []int { return []int{12, 3, 3, 2, 2, 1, 2, 3} }

// entry is an act's bytes; its numbers fit.
func entry(a api.Act) string {
	s := digits(a.Kind, 1)
	if j := a.Job; a.Kind == api.Submit {
		return s + digits(j.Id, 2) + digits(j.Queue, 1) + digits(j.Prio, 1) + digits(j.Runtime, 2) +
			digits(j.Shape.Gpus, 1) + digits(j.Shape.Cpus, 2) + digits(j.Shape.Min, 1) + digits(j.Shape.Max, 1)
	}
	return s + digits(a.N, lengths()[a.Kind]-1)
}

func entries(l ...api.Act) string {
	s := ""
	for _, a := range l {
		s += entry(a)
	}
	return s
}

// number is the one that some bytes are.
func number(s string) int {
	var b [8]byte
	copy(b[8-len(s):], s)
	return int(binary.BigEndian.Uint64(b[:]))
}

// read is the act whose entry these bytes are.
func read(s string) api.Act {
	a := api.Act{Kind: int(s[0])}
	if a.Kind != api.Submit {
		a.N = number(s[1:])
		return a
	}
	a.Job = api.Job{
		Id: number(s[1:3]), Queue: number(s[3:4]), Prio: number(s[4:5]), Runtime: number(s[5:7]),
		Shape: api.Shape{Gpus: number(s[7:8]), Cpus: number(s[8:10]), Min: number(s[10:11]), Max: number(s[11:12])},
	}
	return a
}

// cut is how many bytes the first entry has, and its error.
func cut(s string) (int, api.Errno) {
	kind := int(s[0])
	if kind > 7 {
		return 1, api.ErrForm
	}
	if n := lengths()[kind]; n <= len(s) {
		return n, api.OK
	}
	return len(s), api.ErrShort
}

// places are where entries begin, and the end of all.
func places(s string) []int {
	l := []int{0}
	for at := 0; at < len(s); {
		n, _ := cut(s[at:])
		at += n
		l = append(l, at)
	}
	return l
}

// told is the replies' bytes, by the chapter's words.
func told(l ...api.Reply) string {
	var s []byte
	for _, r := range l {
		s = append(s, byte(r.Err), byte(min(len(r.Events), 255)))
		for k, x := range r.Events {
			if k < 255 {
				s = append(s, digits(x.Kind, 1)+digits(x.Id, 2)+digits(x.N, 4)...)
			}
		}
	}
	return string(s)
}

// first is a reply with no more events than its bytes have.
func first(r api.Reply) api.Reply {
	return api.Reply{Err: r.Err, Events: r.Events[:min(len(r.Events), 255)]}
}

func sameReply(a, b api.Reply) bool { return a.Err == b.Err && slices.Equal(a.Events, b.Events) }

func sameReplies(a, b []api.Reply) bool { return slices.EqualFunc(a, b, sameReply) }

func sameConfig(a, b api.Config) bool {
	alike := func(x, y api.Node) bool { return slices.Equal(x.Domains, y.Domains) }
	return slices.EqualFunc(a.Cluster.Nodes, b.Cluster.Nodes, alike) && slices.Equal(a.Queues, b.Queues) &&
		[4]int{a.Workers, a.Timeout, a.Runtime, a.Age} == [4]int{b.Workers, b.Timeout, b.Runtime, b.Age}
}

func sameHold(a, b api.Hold) bool {
	return a.Id == b.Id && a.Queue == b.Queue && a.Until == b.Until && a.Running == b.Running && slices.Equal(a.Slots, b.Slots)
}

func sameState(a, b api.State) bool {
	return a.Now == b.Now && a.Arrivals == b.Arrivals && a.Head == b.Head && a.Promise == b.Promise &&
		slices.Equal(a.Workers, b.Workers) && slices.Equal(a.Drained, b.Drained) && slices.Equal(a.Gangs, b.Gangs) &&
		slices.EqualFunc(a.Holds, b.Holds, sameHold) && slices.Equal(a.Free, b.Free) && slices.Equal(a.Used, b.Used)
}

// rig is a run, and beside it a system of the same configuration, which is asked the acts that the bytes are.
type rig struct {
	*testing.T
	r    *script.Run
	s    *sched.System
	c    api.Config
	left string
}

func newRig(t *testing.T, c api.Config, behind string) *rig {
	t.Helper()
	r, e := script.New(head(c) + behind)
	if e != api.OK || r == nil {
		t.Fatal(c, e)
	}
	s, e := sched.New(c)
	if e != api.OK {
		t.Fatal(c, e)
	}
	x := &rig{t, r, s, c, behind}
	x.alike()
	return x
}

// alike holds what the run tells of itself to the system and the bytes, whichever is asked first.
func (x *rig) alike() {
	x.Helper()
	for range 2 {
		if is, want := x.r.Left(), len(places(x.left))-1; is != want {
			x.Fatalf("%.99q: %d left, want %d", x.left, is, want)
		}
		if is, want := x.r.State(), x.s.State(); !sameState(is, want) {
			x.Fatalf("%.99q: state\n%v, want\n%v", x.left, is, want)
		}
		if is := x.r.Config(); !sameConfig(is, x.c) {
			x.Fatalf("%.99q: %v, want %v", x.left, is, x.c)
		}
	}
}

// want is what the next step has to tell: the answer of the system, or the error of an entry, that the system isn't asked.
func (x *rig) want() api.Reply {
	n, e := cut(x.left)
	one := x.left[:n]
	x.left = x.left[n:]
	if e != api.OK {
		return api.Reply{Err: e}
	}
	return x.s.Do(read(one))
}

// step is a step, ahead of which there is an entry.
func (x *rig) step() api.Reply {
	x.Helper()
	before := x.r.State()
	want := x.want()
	is, ok := x.r.Step()
	if !ok || !sameReply(is, want) {
		x.Fatalf("%.99q: %v %v, want %v", x.left, is, ok, want)
	}
	x.alike()
	if is.Err != api.OK && (len(is.Events) > 0 || !sameState(x.r.State(), before)) {
		x.Fatalf("%.99q: %v, and %v became %v", x.left, is, before, x.r.State())
	}
	return is
}

// over asks for one more step behind all, again and again.
func (x *rig) over() {
	x.Helper()
	for range 3 {
		if is, ok := x.r.Step(); ok || !sameReply(is, api.Reply{}) {
			x.Fatal(is, ok)
		}
		if n := x.r.Left(); n != 0 {
			x.Fatal(n)
		}
		x.alike()
	}
}

// runs goes through a script step by step, and holds what is played to it.
func runs(t *testing.T, c api.Config, behind string) []api.Reply {
	t.Helper()
	x := newRig(t, c, behind)
	var l, firsts []api.Reply
	for x.left != "" {
		is := x.step()
		l, firsts = append(l, is), append(firsts, first(is))
	}
	x.over()
	played, e := script.Play(head(c) + behind)
	if played != told(l...) || played != script.Bytes(l...) || e != api.OK {
		t.Fatalf("%.99q: played %.99q %v, want %.99q", behind, played, e, told(l...))
	}
	if again, e := script.Replies(played); !sameReplies(again, firsts) || e != api.OK {
		t.Fatalf("%.99q: replies %v %v, want %v", behind, again, e, firsts)
	}
	return l
}

// refuses asks that there is no run of these bytes.
func refuses(t *testing.T, s string, want api.Errno) {
	t.Helper()
	if r, e := script.New(s); r != nil || e != want {
		t.Fatalf("New(%.99q): %v %v, want %v", s, r, e, want)
	}
	if played, e := script.Play(s); played != "" || e != want {
		t.Fatalf("Play(%.99q): %.99q %v, want %v", s, played, e, want)
	}
}

// config is one of two nodes of a domain each, with 4 and 2 Gpus, and of two queues, the second one of 3 Gpus and without room for more than one.
func config() api.Config {
	return api.Config{
		Cluster: api.Cluster{Nodes: []api.Node{{Domains: []api.Domain{{Gpus: 4, Cpus: 300}}}, {Domains: []api.Domain{{Gpus: 2, Cpus: 300}}}}},
		Queues:  []api.Queue{{Quota: api.Units{Gpus: 1 << 20, Cpus: 1 << 20}, Room: 16}, {Quota: api.Units{Gpus: 3, Cpus: 9}, Room: 1}},
		Workers: 2, Timeout: 2, Runtime: 300, Age: 4,
	}
}

// gang is a job of least to most members of a Gpu each, for queue 0.
func gang(id, least, most, runtime int) api.Job {
	return api.Job{Id: id, Runtime: runtime, Shape: api.Shape{Gpus: 1, Min: least, Max: most}}
}

func submit(j api.Job) api.Act { return api.Act{Kind: api.Submit, Job: j} }

func act(kind, n int) api.Act { return api.Act{Kind: kind, N: n} }

func pick(n int) api.Act { return act(api.Pick, n) }

func tick() api.Act { return act(api.Tick, 0) }

// done is a reply of these events, three numbers each.
func done(numbers ...int) api.Reply {
	var r api.Reply
	for x := range slices.Chunk(numbers, 3) {
		r.Events = append(r.Events, api.Event{Kind: x[0], Id: x[1], N: x[2]})
	}
	return r
}

func refused(e api.Errno) api.Reply { return api.Reply{Err: e} }

// draws are numbers that are the same in each run.
type draws uint64

func (d *draws) below(n int) int {
	x := uint64(*d)
	x ^= x << 13
	x ^= x >> 7
	x ^= x << 17
	*d = draws(x)
	return int(x >> 1 % uint64(n))
}

// of is one of some.
func (d *draws) of(l ...int) int { return l[d.below(len(l))] }

// config is drawn; it may be.
func (d *draws) config() api.Config {
	c := api.Config{Workers: 1 + d.below(4), Timeout: d.of(0, 1, 2, 3, 64), Runtime: d.of(5, 12, 300, 1024), Age: d.of(1, 3, 9, 1024)}
	for range 1 + d.below(3) {
		var n api.Node
		for range 1 + d.below(3) {
			n.Domains = append(n.Domains, api.Domain{Gpus: 1 + d.below(5), Cpus: d.of(3, 12, 1024)})
		}
		c.Cluster.Nodes = append(c.Cluster.Nodes, n)
	}
	for range 1 + d.below(3) {
		q := api.Queue{Quota: api.Units{Gpus: d.of(1<<20, 3+d.below(9)), Cpus: d.of(1<<20, 3+d.below(30))}, Room: d.of(1, 3, 16)}
		c.Queues = append(c.Queues, q)
	}
	return c
}

// act is drawn; its numbers fit, and at times nothing else does.
func (d *draws) act(c api.Config) api.Act {
	id := 1 + d.below(30)
	if d.below(12) == 0 {
		id = d.of(0, 255, 256, 65535)
	}
	switch k := d.below(100); {
	case k < 25:
		least := 1 + d.below(3)
		j := api.Job{Id: id, Queue: d.below(len(c.Queues)), Prio: d.below(4), Runtime: 1 + d.below(min(c.Runtime, 12))}
		j.Shape = api.Shape{Gpus: d.of(0, 1, 1, 2), Cpus: d.of(0, 1, 2), Min: least, Max: least + d.below(3)}
		if d.below(15) == 0 {
			j.Queue, j.Shape.Max = d.of(0, 3, 255), d.of(0, 16, 17, 255)
		}
		return submit(j)
	case k < 40:
		return tick()
	case k < 82:
		return pick(d.of(0, 0, 1, d.below(c.Workers), d.below(256)))
	case k < 87:
		return act(d.of(api.Drain, api.Undrain, api.Undrain), d.of(0, 1, 2, d.below(256)))
	}
	return act(d.of(api.Finish, api.Shrink, api.Shrink, api.Cancel), id)
}

// behind is drawn: entries, and at times bytes that are none.
func (d *draws) behind(c api.Config, n int) string {
	s := ""
	for range n {
		if d.below(25) == 0 {
			s += digits(d.of(8, 9, 255, 8+d.below(248)), 1)
		}
		s += entry(d.act(c))
	}
	return s
}

// wide is a number, often one that just fits into so many bytes, or just doesn't.
func (d *draws) wide(width int, fits bool) int {
	most := 1<<(8*width) - 1
	if !fits && d.below(3) == 0 {
		return d.of(-1, -2, -most, -most-1, most+1, most+2, 1<<32, 1<<40, math.MinInt, math.MaxInt)
	}
	return d.of(0, 1, most/2, most/2+1, most-1, most, d.below(most+1), d.below(most+1))
}

// reply is drawn.
func (d *draws) reply(fits bool) api.Reply {
	r := api.Reply{Err: api.Errno(d.wide(1, fits))}
	many := d.of(0, 0, 1, 2, d.below(20), 254, 255)
	if !fits && d.below(3) == 0 {
		many = d.of(256, 257, 300, 511, 512)
	}
	for range many {
		r.Events = append(r.Events, api.Event{Kind: d.wide(1, fits), Id: d.wide(2, fits), N: d.wide(4, fits)})
	}
	return r
}
