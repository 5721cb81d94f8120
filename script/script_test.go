package script_test

import (
	"slices"
	"strings"
	"testing"

	"ensemble/api"
	"ensemble/sched"
	"ensemble/script"
)

// plays holds a script's replies to those that it has to have, and goes through it step by step.
func plays(t *testing.T, c api.Config, behind string, want ...api.Reply) {
	t.Helper()
	if l := runs(t, c, behind); !sameReplies(l, want) {
		t.Fatalf("%.99q: %v, want %v", behind, l, want)
	}
}

// The chapter's example.
func TestExample(t *testing.T) {
	plays(t, config(), "\x05\x09", done(), refused(api.ErrForm))
	if s, e := script.Play(head(config()) + "\x05\x09"); s != "\x00\x00\x0a\x00" || e != api.OK {
		t.Errorf("%q %v", s, e)
	}
}

// life is a script's entries, put together by hand: of each Kind at least one; and its replies, likewise.
const (
	life = "\x00\x00\x07\x00\x00\x00\x0a\x01\x00\x00\x02\x03" + "\x06\x00" + "\x06\x00" + "\x07\x00\x07" + "\x06\x01" + "\x05" + "\x02\x00\x07" +
		"\x00\xff\xff\x01\x0f\x01\x2c\x00\x00\x01\x01\x01" + "\x06\x01" + "\x03\x00" + "\x04\x00" + "\x01\xff\xff" + "\x06\x02"
	lifeReplies = "\x00\x01\x01\x00\x07\x00\x00\x00\x01" + "\x00\x02\x02\x00\x07\x00\x00\x00\x00\x03\x00\x07\x00\x00\x00\x03" + "\x00\x01\x04\x00\x07\x00\x00\x00\x03" +
		"\x00\x01\x06\x00\x07\x00\x00\x00\x02" + "\x00\x01\x05\x00\x07\x00\x00\x00\x03" + "\x00\x00" + "\x00\x01\x08\x00\x07\x00\x00\x00\x00" +
		"\x00\x01\x01\xff\xff\x00\x00\x00\x02" + "\x00\x02\x02\xff\xff\x00\x00\x00\x01\x03\xff\xff\x00\x00\x00\x01" + "\x00\x01\x09\xff\xff\x00\x00\x00\x00" + "\x00\x00" + "\x03\x00" + "\x03\x00"
)

// P18.1, P18.2: each Kind of act, in bytes.
func TestLife(t *testing.T) {
	runs(t, config(), life)
	if s, e := script.Play(head(config()) + life); s != lifeReplies || e != api.OK {
		t.Errorf("%q %v", s, e)
	}
	r, _ := script.New(head(config()) + life)
	for k := range 13 {
		if r.Left() != 13-k {
			t.Error(k, r.Left())
		}
		r.Step()
		if x := r.State(); k == 2 && (x.Gangs[0].State != api.Running || x.Gangs[0].Members != 3 || x.Free[0].Mask != 8 || x.Now != 0) {
			t.Error(x)
		}
	}
	x := r.State()
	if x.Now != 1 || x.Arrivals != 2 || x.Gangs[0].State != api.Finished || x.Gangs[1].State != api.Killed || x.Free[0].Mask != 15 || r.Left() != 0 {
		t.Error(x)
	}
}

// The document's examples of the whole: a head that is promised the end of the one that runs, one that goes ahead of it and one that doesn't; a late reservation; a drained node.
func TestWhole(t *testing.T) {
	c := config()
	c.Cluster.Nodes = c.Cluster.Nodes[:1]
	plays(t, c, entries(
		submit(gang(1, 3, 3, 6)), pick(0), pick(0), submit(gang(2, 4, 4, 9)), submit(gang(3, 1, 1, 5)), submit(gang(4, 1, 1, 4)),
		pick(0), pick(1), tick(), tick(), tick(), pick(1), act(api.Drain, 0), act(api.Undrain, 0), pick(0), pick(0),
	),
		done(api.Queued, 1, 1), done(api.Headed, 1, 0, api.Took, 1, 3), done(api.Started, 1, 3), done(api.Queued, 2, 2), done(api.Queued, 3, 3), done(api.Queued, 4, 4),
		done(api.Headed, 2, 6, api.Took, 4, 1), done(api.Idle, 0, 0), done(), done(), done(),
		done(api.Expired, 4, 0, api.Idle, 0, 0), done(api.Dead, 1, 0), done(), done(api.Took, 2, 4), done(api.Started, 2, 4),
	)
}

// P18.1: one entry, which is the last one, whatever its first byte is.
func TestOneEntry(t *testing.T) {
	c := config()
	want := []api.Reply{done(api.Queued, 7, 1), refused(api.ErrNone), refused(api.ErrNone), done(), refused(api.ErrNone), done(), done(api.Idle, 0, 0), refused(api.ErrNone)}
	for kind := range 8 {
		a := act(kind, 0)
		if kind == api.Submit {
			a = submit(gang(7, 1, 1, 1))
		}
		if l := runs(t, c, entry(a)); !sameReplies(l, want[kind:kind+1]) {
			t.Error(kind, l)
		}
	}
	for b := range 256 {
		l := runs(t, c, digits(b, 1))
		switch {
		case b == api.Tick:
			plays(t, c, "\x05", done())
		case b < 8 && !sameReplies(l, []api.Reply{refused(api.ErrShort)}), b > 7 && !sameReplies(l, []api.Reply{refused(api.ErrForm)}):
			t.Error(b, l)
		}
	}
}

// fulls are entries of each Kind, of which all bytes but the Kind are so.
func fulls(b byte) []string {
	var l []string
	for kind, n := range lengths() {
		l = append(l, digits(kind, 1)+strings.Repeat(string([]byte{b}), n-1))
	}
	return l
}

// P18.1: an entry of each Kind is cut through at each of its bytes, alone and behind others: it is one more entry, whose reply is ErrShort.
func TestCutEntries(t *testing.T) {
	c := config()
	for _, b := range []byte{0, 5, 8} {
		for _, s := range fulls(b) {
			for n := 1; n < len(s); n++ {
				plays(t, c, s[:n], refused(api.ErrShort))
				plays(t, c, "\x05"+s[:n], done(), refused(api.ErrShort))
				plays(t, c, "\xff"+s[:n], refused(api.ErrForm), refused(api.ErrShort))
				l := runs(t, c, life+s[:n])
				if told(l...) != lifeReplies+"\x0b\x00" {
					t.Fatalf("%q: %v", s[:n], l)
				}
			}
		}
	}
}

// P18.1: each byte that is no Kind is an entry of its own, ahead of acts, between them and behind all, also several in a row; it changes nothing of what they tell.
func TestNoKinds(t *testing.T) {
	c := config()
	at := places(life)
	plain := runs(t, c, life)
	for b := 8; b < 256; b++ {
		for many := 1; many < 4; many++ {
			wrong := strings.Repeat(string([]byte{byte(b)}), many)
			if b%16 > 0 && many > 1 {
				continue
			}
			bad := slices.Repeat([]api.Reply{refused(api.ErrForm)}, many)
			s, want := wrong, slices.Clone(bad)
			for k, r := range plain {
				s += life[at[k]:at[k+1]] + wrong
				want = append(append(want, r), bad...)
			}
			plays(t, c, s, want...)
			plays(t, c, wrong, bad...)
		}
	}
}

// P18.1: acts that the system refuses are answered by its errors.
func TestRefused(t *testing.T) {
	c := config()
	other := func(id int, turn func(j *api.Job)) api.Act {
		j := gang(id, 1, 1, 1)
		turn(&j)
		return submit(j)
	}
	plays(t, c, entries(
		submit(gang(0, 1, 1, 1)), submit(gang(7, 1, 1, 0)), submit(gang(7, 1, 1, 301)), submit(gang(7, 2, 1, 1)), submit(gang(7, 1, 17, 1)), other(7, func(j *api.Job) { j.Prio = 16 }),
		other(7, func(j *api.Job) { j.Queue = 2 }), other(7, func(j *api.Job) { j.Queue = 255 }),
		submit(gang(7, 2, 3, 9)), submit(gang(7, 2, 3, 9)), submit(gang(7, 0, 3, 9)),
		submit(gang(8, 7, 7, 1)), other(8, func(j *api.Job) { j.Shape.Gpus = 5 }), other(8, func(j *api.Job) { j.Queue, j.Shape.Gpus = 1, 4 }),
		other(8, func(j *api.Job) { j.Queue = 1 }), other(9, func(j *api.Job) { j.Queue = 1 }),
		act(api.Cancel, 9), act(api.Cancel, 65535), act(api.Finish, 7), act(api.Shrink, 7), act(api.Drain, 2), act(api.Drain, 255), act(api.Undrain, 2), pick(2), pick(255),
		pick(0), act(api.Finish, 7), pick(0), act(api.Shrink, 7), act(api.Shrink, 7), act(api.Cancel, 7), act(api.Cancel, 7), act(api.Finish, 7), submit(gang(7, 1, 1, 1)),
		act(api.Undrain, 1), act(api.Drain, 1), act(api.Drain, 1), act(api.Undrain, 1), act(api.Undrain, 1),
	),
		refused(api.ErrRange), refused(api.ErrRange), refused(api.ErrRange), refused(api.ErrRange), refused(api.ErrRange), refused(api.ErrRange),
		refused(api.ErrNone), refused(api.ErrNone),
		done(api.Queued, 7, 1), refused(api.ErrTwice), refused(api.ErrRange),
		refused(api.ErrFit), refused(api.ErrFit), refused(api.ErrQuota),
		done(api.Queued, 8, 2), refused(api.ErrFull),
		refused(api.ErrNone), refused(api.ErrNone), refused(api.ErrNone), refused(api.ErrNone), refused(api.ErrRange), refused(api.ErrRange), refused(api.ErrRange), refused(api.ErrNone), refused(api.ErrNone),
		done(api.Headed, 7, 0, api.Took, 7, 3), refused(api.ErrNone), done(api.Started, 7, 3), done(api.Shrunk, 7, 2), refused(api.ErrState), done(api.Gone, 7, 0), refused(api.ErrNone), refused(api.ErrNone), refused(api.ErrTwice),
		refused(api.ErrNone), done(), refused(api.ErrTwice), done(), refused(api.ErrNone),
	)
}

// P18.1: numbers of two bytes have all of them: Ids, Runtimes and Cpus of 255, 256 and more.
func TestWideNumbers(t *testing.T) {
	for _, n := range []int{255, 256, 257, 300} {
		j := api.Job{Id: n, Runtime: n, Shape: api.Shape{Cpus: n, Min: 2, Max: 2}}
		x := newRig(t, config(), entries(submit(j), pick(1), pick(1), tick())+strings.Repeat("\x05", n))
		for range n {
			x.step()
		}
		if s := x.r.State(); s.Now != n-3 || s.Gangs[0].Job != j || s.Gangs[0].End != n || s.Free[0].Cpus != 300-n || s.Free[1].Cpus != 300-n {
			t.Error(n, s)
		}
		for x.left != "" {
			x.step()
		}
		if s := x.r.State(); s.Gangs[0].State != api.Killed || s.Now != n+1 {
			t.Error(n, s)
		}
	}
}

// P18.1, P18.2: so many gangs end at one tick, or by one drained node: a step tells all of them, and the bytes the first 255.
func TestManyEvents(t *testing.T) {
	for _, n := range []int{1, 254, 255, 256, 257, 400} {
		for _, last := range []api.Act{tick(), act(api.Drain, 0)} {
			c := large()
			var s strings.Builder
			s.WriteString(head(c))
			for id := range n {
				s.WriteString(entries(submit(api.Job{Id: 1 + id, Runtime: 1, Shape: api.Shape{Cpus: 1, Min: 1, Max: 1}}), pick(0), pick(0)))
			}
			s.WriteString(entry(last))
			r, e := script.New(s.String())
			if e != api.OK || r.Left() != 3*n+1 {
				t.Fatal(e)
			}
			var l []api.Reply
			for is, ok := r.Step(); ok; is, ok = r.Step() {
				l = append(l, is)
			}
			dead := l[len(l)-1].Events
			if len(l) != 3*n+1 || len(dead) != n || dead[n-1].Kind != api.Dead || dead[n-1].Id != n {
				t.Fatal(n, len(l), len(dead))
			}
			played, e := script.Play(s.String())
			if played != told(l...) || played != script.Bytes(l...) || e != api.OK {
				t.Fatal(n, e)
			}
			again, e := script.Replies(played)
			if e != api.OK || len(again) != len(l) || !slices.Equal(again[3*n].Events, dead[:min(n, 255)]) {
				t.Fatal(n, e)
			}
		}
	}
}

// P18.1: how many are left is told ahead of each step and behind all; whether it was asked plays no part.
func TestLeft(t *testing.T) {
	s := "\xff" + life + "\x08\x00\x05"
	asked, _ := script.New(head(config()) + s)
	other, _ := script.New(head(config()) + s)
	for k := range 16 {
		if n := asked.Left(); n != 16-k {
			t.Error(k, n)
		}
		a, x := asked.Step()
		b, y := other.Step()
		if !sameReply(a, b) || !x || !y {
			t.Error(k, a, b, x, y)
		}
	}
	for range 9 {
		a, x := asked.Step()
		b, y := other.Step()
		if x || y || !sameReply(a, api.Reply{}) || !sameReply(b, api.Reply{}) || asked.Left() != 0 || other.Left() != 0 {
			t.Error(a, b, x, y)
		}
	}
	if !sameState(asked.State(), other.State()) {
		t.Error(asked.State(), other.State())
	}
}

// P18.1, P18.2: drawn scripts, step by step; they come to events of all Kinds, and to errors of all that there are.
func TestDrawnScripts(t *testing.T) {
	d := draws(1818)
	kinds, errs := map[int]int{}, map[api.Errno]int{}
	for range 250 {
		c := d.config()
		s := d.behind(c, 150)
		for _, r := range runs(t, c, s[:max(0, len(s)-d.below(4))]) {
			errs[r.Err]++
			for _, x := range r.Events {
				kinds[x.Kind]++
			}
		}
	}
	for kind := api.Queued; kind <= api.Idle; kind++ {
		if kinds[kind] < 30 {
			t.Error(kind, kinds)
		}
	}
	for _, e := range []api.Errno{api.ErrRange, api.ErrFull, api.ErrNone, api.ErrTwice, api.ErrQuota, api.ErrFit, api.ErrState, api.ErrForm, api.ErrShort} {
		if errs[e] < 30 {
			t.Error(e, errs)
		}
	}
}

// P18.1: drawn bytes behind a configuration are a script, whatever they are.
func TestDrawnBytes(t *testing.T) {
	d := draws(18181)
	for range 300 {
		s := make([]byte, d.below(120))
		for k := range s {
			s[k] = byte(d.of(d.below(9), d.below(256), 0, 6))
		}
		runs(t, d.config(), string(s))
	}
}

// P18.3: each beginning of a script's entries has the same replies and states as far as it goes, whatever stands behind it.
func TestBeginnings(t *testing.T) {
	d := draws(183)
	for range 12 {
		c := d.config()
		s := d.behind(c, 40)
		at := places(s)
		all := runs(t, c, s)
		for k := range at {
			plays(t, c, s[:at[k]], all[:k]...)
			for _, tail := range []string{"\x05", "\xff", "\x00", life, d.behind(c, 5)} {
				if l := runs(t, c, s[:at[k]]+tail); !sameReplies(l[:k], all[:k]) {
					t.Fatalf("%q, %d, %q: %v, want %v", s, k, tail, l[:k], all[:k])
				}
			}
		}
		// Cut through an entry, the script has its replies up to there, and ErrShort.
		for n := range s {
			l := runs(t, c, s[:n])
			whole := 0
			for at[whole+1] <= n {
				whole++
			}
			if !sameReplies(l[:whole], all[:whole]) || at[whole] < n && !sameReply(l[whole], refused(api.ErrShort)) {
				t.Fatalf("%q: %v, want %v", s[:n], l, all)
			}
		}
	}
}

// P18.3: of a beginning what is played is a beginning of what is played of all.
func TestPlayedBeginnings(t *testing.T) {
	at := places(life)
	for k := range at {
		s, e := script.Play(head(config()) + life[:at[k]])
		if e != api.OK || !strings.HasPrefix(lifeReplies, s) {
			t.Errorf("%d: %q %v", k, s, e)
		}
	}
}

// P0.1: acts that are asked, and those that are run as bytes, lead to the same replies and states; so does the same script, twice and side by side with another one.
func TestSameTwice(t *testing.T) {
	d := draws(1)
	for range 40 {
		c := d.config()
		var acts []api.Act
		for range 120 {
			acts = append(acts, d.act(c))
		}
		s := head(c) + entries(acts...)
		a, _ := script.New(s)
		b, _ := script.New(s)
		other, _ := script.New(head(config()) + life + life)
		system, _ := sched.New(c)
		for k, x := range acts {
			want := system.Do(x)
			one, ok := a.Step()
			two, also := b.Step()
			other.Step()
			if !ok || !also || !sameReply(one, want) || !sameReply(two, want) || !sameState(a.State(), system.State()) || !sameState(b.State(), system.State()) {
				t.Fatal(k, x, one, two, want)
			}
		}
		one, _ := script.Play(s)
		if two, _ := script.Play(s); one != two {
			t.Fatal(s)
		}
	}
}

// P18.1: a long script, of many entries of all sorts.
func TestLong(t *testing.T) {
	many := 20000
	s := head(config()) + strings.Repeat("\x05\x06\x01\xff\x01\x00\x09", many) + "\x00"
	r, e := script.New(s)
	if e != api.OK || r.Left() != 4*many+1 {
		t.Fatal(e)
	}
	want := strings.Repeat("\x00\x00"+"\x00\x01\x0b\x00\x00\x00\x00\x00\x00"+"\x0a\x00"+"\x03\x00", many) + "\x0b\x00"
	if is, e := script.Play(s); is != want || e != api.OK {
		t.Error(len(is), e)
	}
}
