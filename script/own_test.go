package script_test

import (
	"slices"
	"testing"
	"unsafe"

	"ensemble/api"
	"ensemble/script"
)

// spoil writes into all lists of a state, and behind their ends.
func spoil(s api.State) {
	for _, h := range s.Holds {
		clear(h.Slots)
		_ = append(h.Slots, api.Slot{Cpus: 77})
	}
	for _, l := range [][]int{s.Workers, append(s.Workers, 77)} {
		clear(l)
	}
	clear(s.Drained)
	clear(s.Gangs)
	clear(s.Holds)
	clear(s.Free)
	clear(s.Used)
	_ = append(s.Drained, true)
	_ = append(s.Gangs, api.Record{Members: 77})
	_ = append(s.Holds, api.Hold{Id: 77})
	_ = append(s.Free, api.Free{Cpus: 77})
	_ = append(s.Used, api.Units{Cpus: 77})
}

// spoilConfig writes into all lists of a configuration, and behind their ends.
func spoilConfig(c api.Config) {
	for _, n := range c.Cluster.Nodes {
		clear(n.Domains)
		_ = append(n.Domains, api.Domain{Gpus: 77})
	}
	clear(c.Cluster.Nodes)
	clear(c.Queues)
	_ = append(c.Cluster.Nodes, api.Node{Domains: []api.Domain{{Gpus: 77}}})
	_ = append(c.Queues, api.Queue{Room: 77})
}

// Rule 3: whatever a run tells can be written into at each step; it is told as before, and nothing goes otherwise.
func TestTellsAnew(t *testing.T) {
	d := draws(1803)
	for range 30 {
		c := d.config()
		x := newRig(t, c, d.behind(c, 60))
		for x.left != "" {
			want := x.want()
			is, ok := x.r.Step()
			if !ok || !sameReply(is, want) {
				t.Fatal(is, want)
			}
			clear(is.Events)
			_ = append(is.Events, api.Event{Kind: 77, Id: 77, N: 77})
			for range 2 {
				spoil(x.r.State())
				spoilConfig(x.r.Config())
			}
			x.alike()
		}
		x.over()
	}
}

// Rule 3: no two lists of a configuration share memory: one more in one of them isn't seen in the next.
func TestConfigsListsAreApart(t *testing.T) {
	r, _ := script.New(head(large()))
	c := r.Config()
	for k := range c.Cluster.Nodes {
		l := &c.Cluster.Nodes[k].Domains
		*l = append(*l, api.Domain{Gpus: 88})
	}
	for _, n := range c.Cluster.Nodes {
		if !slices.Equal(n.Domains[:4], large().Cluster.Nodes[0].Domains) {
			t.Error(n)
		}
	}
	if !sameConfig(r.Config(), large()) {
		t.Error(r.Config())
	}
}

// Rule 3: replies that are told are new, and no two share memory; they can be written into, and are told as before.
func TestRepliesAreNew(t *testing.T) {
	row := []api.Reply{many(3), many(1), done(), many(2), refused(api.ErrLost)}
	s := script.Bytes(row...)
	a, _ := script.Replies(s)
	b, _ := script.Replies(s)
	for k := range a {
		a[k].Events = append(a[k].Events, api.Event{Kind: 77, Id: 77, N: 77})
	}
	for k, r := range row {
		if is := a[k].Events; !slices.Equal(is[:len(is)-1], r.Events) {
			t.Error(k, is)
		}
		clear(a[k].Events)
	}
	clear(a)
	again, _ := script.Replies(s)
	if !sameReplies(b, row) || !sameReplies(again, row) || s != told(row...) {
		t.Error(b, again)
	}
}

// Rule 3: the replies that are put are neither changed nor kept, their spare room neither.
func TestBytesChangesNothing(t *testing.T) {
	mark := api.Event{Kind: 77, Id: 77, N: 77}
	fresh := func() []api.Reply {
		l := []api.Reply{many(3), {}, many(300), refused(api.ErrFit), {Events: []api.Event{mark}}}
		for k := range l {
			l[k].Events = append(l[k].Events, mark)[:len(l[k].Events)]
		}
		return l
	}
	l := fresh()
	s := script.Bytes(l[:4]...)
	want := fresh()
	if !sameReplies(l, want) {
		t.Error(l)
	}
	for k := range l {
		if n := len(l[k].Events); l[k].Events[:n+1][n] != mark {
			t.Error(k, l[k].Events)
		}
		clear(l[k].Events)
	}
	clear(l)
	if s != told(want[:4]...) {
		t.Errorf("%.99q", s)
	}
}

// loose is a text whose bytes can be written into, as no other text's can: what is kept of it is seen to change.
func loose(s string) ([]byte, string) {
	b := []byte(s)
	return b, unsafe.String(unsafe.SliceData(b), len(b))
}

// Rule 3: the bytes that a run, what is played, and replies were made of aren't changed, and are kept by none.
func TestKeepsNoBytes(t *testing.T) {
	s := head(config()) + life
	bytes, text := loose(s)
	r, e := script.New(text)
	if e != api.OK {
		t.Fatal(e)
	}
	played, e := script.Play(text)
	if string(bytes) != s || e != api.OK {
		t.Fatalf("%q %v", bytes, e)
	}
	for k := range bytes {
		bytes[k] = 1
	}
	if n := r.Left(); n != 13 || !sameConfig(r.Config(), config()) || played != lifeReplies {
		t.Errorf("%d %v %q", n, r.Config(), played)
	}
	var l []api.Reply
	for is, ok := r.Step(); ok; is, ok = r.Step() {
		l = append(l, is)
	}
	if told(l...) != lifeReplies || !sameConfig(r.Config(), config()) {
		t.Error(l, r.Config())
	}
	bytes, text = loose(lifeReplies)
	again, e := script.Replies(text)
	if string(bytes) != lifeReplies || e != api.OK {
		t.Fatalf("%q %v", bytes, e)
	}
	clear(bytes)
	if !sameReplies(again, l) {
		t.Error(again)
	}
}
