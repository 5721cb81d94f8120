package wire_test

import (
	"encoding/binary"
	"slices"
	"testing"

	"ensemble/api"
	"ensemble/wire"
)

// numbers of an act, behind its Kind: N, then the job's Id, Queue, Prio, Runtime, and its shape's Gpus, Cpus, Min, Max.
type numbers [9]int

func (n numbers) act(kind int) api.Act {
	return api.Act{Kind: kind, N: n[0], Job: api.Job{
		Id: n[1], Queue: n[2], Prio: n[3], Runtime: n[4],
		Shape: api.Shape{Gpus: n[5], Cpus: n[6], Min: n[7], Max: n[8]},
	}}
}

// widths of a Kind's numbers, 0 where one has no bytes, by the chapter's table.
func widths(kind int) [9]int {
	switch kind {
	case api.Submit:
		return [9]int{0, 2, 1, 1, 2, 1, 2, 1, 1}
	case api.Cancel, api.Finish, api.Shrink:
		return [9]int{2}
	case api.Drain, api.Undrain, api.Pick:
		return [9]int{1}
	}
	return [9]int{}
}

// most is as great as so many bytes hold.
func most(width int) int { return []int{0, 255, 65535, 16777215}[width] }

// length of an entry.
func length(kind int) int {
	n := 1
	for _, w := range widths(kind) {
		n += w
	}
	return n
}

// digits are the lowest bytes of a number.
func digits(n, width int) string {
	return string(binary.BigEndian.AppendUint64(nil, uint64(n))[8-width:])
}

// put is what Put answers, by the chapter's words.
func put(kind int, n numbers) (string, api.Errno) {
	if kind < 0 || kind > 7 {
		return "", api.ErrForm
	}
	ws := widths(kind)
	for k, w := range ws {
		if w == 0 && n[k] != 0 {
			return "", api.ErrForm
		}
	}
	s := digits(kind, 1)
	for k, w := range ws {
		if n[k] < 0 || n[k] > most(w) {
			return "", api.ErrRange
		}
		s += digits(n[k], w)
	}
	return s, api.OK
}

// number is the one that some bytes are.
func number(s string) int {
	var b [8]byte
	copy(b[8-len(s):], s)
	return int(binary.BigEndian.Uint64(b[:]))
}

// entries is what Entries answers, by the chapter's words.
func entries(s string) []wire.Entry {
	var l []wire.Entry
	at := 0
	for at < len(s) {
		kind := int(s[at])
		switch {
		case kind > 7:
			l = append(l, wire.Entry{Err: api.ErrForm, At: at})
			at++
		case len(s)-at < length(kind):
			return append(l, wire.Entry{Err: api.ErrShort, At: at})
		default:
			var n numbers
			from := at + 1
			for k, w := range widths(kind) {
				n[k] = number(s[from : from+w])
				from += w
			}
			l = append(l, wire.Entry{Act: n.act(kind), At: at})
			at += length(kind)
		}
	}
	return l
}

// row is a configuration's numbers, in the order of their bytes, and how many bytes each has.
type row struct{ number, width int }

func rows(c api.Config) []row {
	l := []row{{len(c.Cluster.Nodes), 1}}
	for _, n := range c.Cluster.Nodes {
		l = append(l, row{len(n.Domains), 1})
		for _, d := range n.Domains {
			l = append(l, row{d.Gpus, 1}, row{d.Cpus, 2})
		}
	}
	l = append(l, row{len(c.Queues), 1})
	for _, q := range c.Queues {
		l = append(l, row{q.Quota.Gpus, 3}, row{q.Quota.Cpus, 3}, row{q.Room, 1})
	}
	return append(l, row{c.Workers, 1}, row{c.Timeout, 1}, row{c.Runtime, 2}, row{c.Age, 2})
}

// putConfig is what PutConfig answers, by the chapter's words.
func putConfig(c api.Config) (string, api.Errno) {
	var s []byte
	for _, r := range rows(c) {
		if r.number < 0 || r.number > most(r.width) {
			return "", api.ErrRange
		}
		s = append(s, digits(r.number, r.width)...)
	}
	return string(s), api.OK
}

// reader reads a text's numbers; short, if it hasn't enough.
type reader struct {
	s     string
	short bool
}

func (r *reader) next(width int) int {
	if len(r.s) < width {
		r.short, r.s = true, ""
		return 0
	}
	n := number(r.s[:width])
	r.s = r.s[width:]
	return n
}

// config is what Config answers, by the chapter's words.
func config(s string) (api.Config, string, api.Errno) {
	r := &reader{s: s}
	var c api.Config
	for range r.next(1) {
		var n api.Node
		for range r.next(1) {
			gpus := r.next(1)
			n.Domains = append(n.Domains, api.Domain{Gpus: gpus, Cpus: r.next(2)})
		}
		c.Cluster.Nodes = append(c.Cluster.Nodes, n)
	}
	for range r.next(1) {
		gpus, cpus := r.next(3), r.next(3)
		c.Queues = append(c.Queues, api.Queue{Quota: api.Units{Gpus: gpus, Cpus: cpus}, Room: r.next(1)})
	}
	c.Workers, c.Timeout, c.Runtime, c.Age = r.next(1), r.next(1), r.next(2), r.next(2)
	if r.short {
		return api.Config{}, "", api.ErrShort
	}
	return c, r.s, api.OK
}

// same tells whether two configurations are alike; an empty list is like none.
func same(a, b api.Config) bool {
	alike := func(x, y api.Node) bool { return slices.Equal(x.Domains, y.Domains) }
	return slices.EqualFunc(a.Cluster.Nodes, b.Cluster.Nodes, alike) && slices.Equal(a.Queues, b.Queues) &&
		[4]int{a.Workers, a.Timeout, a.Runtime, a.Age} == [4]int{b.Workers, b.Timeout, b.Runtime, b.Age}
}

// puts holds Put to the model; what is told is told by Entries as it was.
func puts(t *testing.T, kind int, n numbers) api.Errno {
	t.Helper()
	a := n.act(kind)
	s, e := wire.Put(a)
	if want, err := put(kind, n); s != want || e != err {
		t.Fatalf("Put(%v): %q %v, want %q %v", a, s, e, want, err)
	}
	if e == api.OK {
		tells(t, s, wire.Entry{Act: a})
	}
	return e
}

// tells holds Entries to what it has to tell.
func tells(t *testing.T, s string, want ...wire.Entry) {
	t.Helper()
	if is := wire.Entries(s); !slices.Equal(is, want) {
		t.Fatalf("Entries(%q): %v, want %v", s, is, want)
	}
}

// reads holds Entries to the model; what has no error, put again, is the bytes that it was.
func reads(t *testing.T, s string) []wire.Entry {
	t.Helper()
	l := wire.Entries(s)
	if want := entries(s); !slices.Equal(l, want) {
		t.Fatalf("Entries(%q): %v, want %v", s, l, want)
	}
	for k, x := range l {
		till := len(s)
		if k+1 < len(l) {
			till = l[k+1].At
		}
		if x.Err != api.OK {
			continue
		}
		if again, e := wire.Put(x.Act); e != api.OK || again != s[x.At:till] {
			t.Fatalf("%q: %v put again: %q %v", s, x, again, e)
		}
	}
	return l
}

// putsConfig holds PutConfig to the model; what is told is told by Config as it was.
func putsConfig(t *testing.T, c api.Config) (string, api.Errno) {
	t.Helper()
	s, e := wire.PutConfig(c)
	if want, err := putConfig(c); s != want || e != err {
		t.Fatalf("PutConfig(%v): %.99q %v, want %.99q %v", c, s, e, want, err)
	}
	if e == api.OK {
		if is, left, e := wire.Config(s); !same(is, c) || left != "" || e != api.OK {
			t.Fatalf("Config(%.99q): %v %.99q %v, want %v", s, is, left, e, c)
		}
	}
	return s, e
}

// readsConfig holds Config to the model; what is told, put again, is the bytes that it was.
func readsConfig(t *testing.T, s string) api.Errno {
	t.Helper()
	c, left, e := wire.Config(s)
	if want, rest, err := config(s); !same(c, want) || left != rest || e != err {
		t.Fatalf("Config(%.99q): %v %.99q %v, want %v %.99q %v", s, c, left, e, want, rest, err)
	}
	if e == api.OK {
		if again, e := wire.PutConfig(c); again+left != s || e != api.OK {
			t.Fatalf("%.99q: put again: %.99q %v", s, again, e)
		}
	}
	return e
}

// draws are numbers that are the same in each run.
type draws uint64

func (d *draws) below(n int) int {
	x := uint64(*d)
	x ^= x << 13
	x ^= x >> 7
	x ^= x << 17
	*d = draws(x)
	return int(x >> 1 % uint64(n))
}

// of is one of some.
func (d *draws) of(l ...int) int { return l[d.below(len(l))] }

// number is one that fits into so many bytes; at times one that just does, or just doesn't.
func (d *draws) number(width, wrong int) int {
	if d.below(100) < wrong {
		return d.of(-1, most(width)+1, -most(width)-1, 1<<32, -1<<32, 1<<63-1, -1<<63)
	}
	if d.below(2) == 0 {
		return d.of(0, 1, most(width), most(width)-1, most(width)/2+1)
	}
	return d.below(most(width) + 1)
}

// config is a drawn one, of a few nodes and queues.
func (d *draws) config(wrong int) api.Config {
	var c api.Config
	for range d.below(5) {
		var n api.Node
		for range d.below(4) {
			n.Domains = append(n.Domains, api.Domain{Gpus: d.number(1, wrong), Cpus: d.number(2, wrong)})
		}
		c.Cluster.Nodes = append(c.Cluster.Nodes, n)
	}
	for range d.below(4) {
		u := api.Units{Gpus: d.number(3, wrong), Cpus: d.number(3, wrong)}
		c.Queues = append(c.Queues, api.Queue{Quota: u, Room: d.number(1, wrong)})
	}
	c.Workers, c.Timeout, c.Runtime, c.Age = d.number(1, wrong), d.number(1, wrong), d.number(2, wrong), d.number(2, wrong)
	return c
}
