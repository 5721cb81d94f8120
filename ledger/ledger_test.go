package ledger_test

import (
	"fmt"
	"math"
	"math/bits"
	"slices"
	"sync"
	"testing"

	"ensemble/api"
	"ensemble/ledger"
)

// far are numbers far away, and some that are near.
func far() []int {
	return []int{math.MinInt, math.MinInt + 1, math.MinInt32, -65536, -2, -1, 0, 1, 2, 16, 65536, 1 << 30, 1<<30 + 1, 1 << 40, math.MaxInt - 1, math.MaxInt}
}

// unchanged holds all that a ledger tells against what it told.
func unchanged(t *testing.T, l *ledger.Ledger, was, call string) {
	t.Helper()
	if is := told(l); is != was {
		t.Fatalf("%s:\n%s, was\n%s", call, is, was)
	}
}

// holds holds those that are told against want.
func holds(t *testing.T, l *ledger.Ledger, want ...api.Hold) {
	t.Helper()
	if is := l.Holds(); fmt.Sprint(is) != fmt.Sprint(want) {
		t.Fatalf("Holds() = %v, want %v", is, want)
	}
}

func version(t *testing.T, l *ledger.Ledger, want int) {
	t.Helper()
	if is := l.Version(); is != want {
		t.Fatalf("Version() = %d, want %d", is, want)
	}
}

// balanced: P8.5, of what the ledger tells, unit by unit.
func balanced(t *testing.T, l *ledger.Ledger, c api.Cluster, quotas []api.Units) {
	t.Helper()
	type gpu struct {
		spot api.Spot
		unit int
	}
	gpus, cpus, used := map[gpu]int{}, map[api.Spot]int{}, make([]api.Units, len(quotas))
	count := func(s api.Slot) {
		cpus[s.Spot] += s.Cpus
		for g := range 64 {
			if s.Mask>>g&1 == 1 {
				gpus[gpu{s.Spot, g}]++
			}
		}
	}
	for _, f := range l.Free() {
		count(api.Slot(f))
	}
	for _, h := range l.Holds() {
		for _, s := range h.Slots {
			count(s)
			used[h.Queue].Gpus += bits.OnesCount64(s.Mask)
			used[h.Queue].Cpus += s.Cpus
		}
	}
	all := 0
	for i, n := range c.Nodes {
		for k, d := range n.Domains {
			spot := api.Spot{Node: i, Domain: k}
			if cpus[spot] != d.Cpus {
				t.Fatalf("%v: %d Cpus of %d", spot, cpus[spot], d.Cpus)
			}
			for g := range d.Gpus {
				if all++; gpus[gpu{spot, g}] != 1 {
					t.Fatalf("%v, Gpu %d: %d times", spot, g, gpus[gpu{spot, g}])
				}
			}
		}
	}
	if len(gpus) != all {
		t.Fatalf("%d Gpus of %d", len(gpus), all)
	}
	if !slices.Equal(l.Used(), used) {
		t.Fatalf("Used() = %v, want %v", l.Used(), used)
	}
	for q, u := range used {
		if u.Gpus > quotas[q].Gpus || u.Cpus > quotas[q].Cpus {
			t.Fatalf("queue %d uses %v of %v", q, u, quotas[q])
		}
		if left, e := l.Left(q); left != units(quotas[q].Gpus-u.Gpus, quotas[q].Cpus-u.Cpus) || e != api.OK {
			t.Fatalf("Left(%d) = %v, %d", q, left, e)
		}
	}
}

// The chapter's example.
func TestExample(t *testing.T) {
	l := made(t, even(1, 1, api.Domain{Gpus: 4, Cpus: 8}), plenty())
	if e := l.Reserve(1, 0, 5, 0, slots(at(0, 0, 1, 1))); e != api.OK {
		t.Error(e)
	}
	if e := l.Reserve(2, 0, 5, 0, slots(at(0, 0, 2, 1))); e != api.ErrLost {
		t.Error(e)
	}
	if e := l.Reserve(2, 0, 5, 1, slots(at(0, 0, 2, 1))); e != api.OK {
		t.Error(e)
	}
	holds(t, l, hold(1, 0, 5, at(0, 0, 1, 1)), hold(2, 0, 5, at(0, 0, 2, 1)))
}

// P8.1: a cluster that may not be, quotas that may not be, both.
func TestNewWrong(t *testing.T) {
	right := []api.Units{units(4, 8)}
	clusters := []api.Cluster{{}, even(17, 1, api.Domain{}), even(1, 0, api.Domain{}), even(1, 5, api.Domain{}),
		even(1, 1, api.Domain{Gpus: 17}), even(1, 1, api.Domain{Gpus: -1}), even(1, 1, api.Domain{Cpus: 1025}), even(1, 1, api.Domain{Cpus: -1}),
		cluster(node(api.Domain{Gpus: 1}), node()), cluster(node(api.Domain{}, api.Domain{Gpus: math.MinInt}))}
	quotas := [][]api.Units{nil, {}, make([]api.Units, 9), {units(-1, 0)}, {units(0, -1)}, {units(1<<20+1, 0)}, {units(0, 1<<20+1)}, {units(1, 1), units(1, math.MinInt)}}
	refused := func(c api.Cluster, q []api.Units) {
		t.Helper()
		if l, e := ledger.New(c, q); l != nil || e != api.ErrRange {
			t.Errorf("New(%v, %v) = %v, %d", c, q, l, e)
		}
	}
	for _, c := range clusters {
		refused(c, right)
		for _, q := range quotas {
			refused(c, q)
		}
	}
	for _, q := range quotas {
		refused(mixed(), q)
	}
}

// P8.1, P8.4: at first there are no holds, all is free, nothing is used, no node is drained; from the least cluster to the greatest.
func TestNew(t *testing.T) {
	for _, c := range []api.Cluster{even(1, 1, api.Domain{}), mixed(), even(16, 4, api.Domain{Gpus: 16, Cpus: 1024})} {
		for _, quotas := range [][]api.Units{{{}}, {plenty()}, {units(1, 2), units(3, 4)}, make([]api.Units, 8)} {
			l := made(t, c, quotas...)
			unchanged(t, l, slowMade(c, quotas...).told(), "New")
			version(t, l, 0)
			holds(t, l)
			balanced(t, l, c, quotas)
			if len(l.Drained()) != len(c.Nodes) || slices.Contains(l.Drained(), true) {
				t.Error(l.Drained())
			}
		}
	}
}

// P8.1: what a hold is that was reserved; it may have any Id, any Until.
func TestReserve(t *testing.T) {
	c := even(2, 2, api.Domain{Gpus: 16, Cpus: 1024})
	sets := [][]api.Slot{slots(at(0, 0, 1, 1)), slots(at(0, 0, 0, 0)), slots(at(0, 0, 3, 0)), slots(at(0, 0, 0, 3)), slots(at(1, 1, 65535, 1024)),
		slots(at(0, 0, 1, 1), at(0, 0, 2, 5), at(0, 0, 12, 0)), slots(at(1, 1, 1, 1), at(0, 1, 1, 1), at(1, 0, 1, 1), at(0, 0, 1, 1)),
		slices.Repeat(slots(at(0, 1, 0, 64)), 16), slices.Repeat(slots(at(0, 0, 0, 0)), 16)}
	for _, set := range sets {
		for _, n := range far() {
			l, s := made(t, c, units(0, 0), plenty()), slowMade(c, units(0, 0), plenty())
			h := hold(n, 1, -n, set...)
			reserve(t, l, h)
			s.reserve(n, 1, -n, 0, set)
			unchanged(t, l, s.told(), "Reserve")
			holds(t, l, h)
			version(t, l, 1)
			balanced(t, l, c, s.quotas)
			release(t, l, h)
			version(t, l, 2)
		}
	}
}

// P8.1: only a version that is the ledger's is taken: one lower, one higher, and others, are not, whatever else is wrong or right.
func TestReserveVersion(t *testing.T) {
	l := made(t, mixed(), plenty())
	for n := range 6 {
		was := told(l)
		for _, v := range append(far(), n-1, n+1, n-2, n+2, -n-1, n+1<<32, n-1<<32) {
			if v == n {
				continue
			}
			for _, set := range [][]api.Slot{nil, slots(at(1, 0, 0, 1)), make([]api.Slot, 17), slots(at(9, 9, 0, -1))} {
				for _, q := range []int{-1, 0, 1} {
					for _, id := range []int{0, n} {
						if e := l.Reserve(id, q, 5, v, set); e != api.ErrLost {
							t.Fatalf("version %d of %d: %d", v, n, e)
						}
					}
				}
			}
		}
		unchanged(t, l, was, "Reserve")
		reserve(t, l, hold(n, 0, 5, at(1, 0, 1<<n, 1)))
	}
}

// P8.1: each error of Reserve, alone and with all that are named behind it; nothing changes.
func TestReserveWrong(t *testing.T) {
	l := made(t, mixed(), units(20, 2000), units(3, 5))
	reserve(t, l, hold(7, 1, 5, at(0, 0, 1, 3)))
	drain(t, l, 2)
	was := told(l)
	const now = 2
	one := slots(at(0, 0, 2, 1))
	for i, x := range []struct {
		id, queue, version int
		l                  []api.Slot
		e                  api.Errno
	}{
		{8, 0, now - 1, one, api.ErrLost},
		{7, 9, now + 1, nil, api.ErrLost},
		{7, 9, -now, make([]api.Slot, 17), api.ErrLost},
		{8, 0, now, nil, api.ErrRange},
		{8, 0, now, slots(), api.ErrRange},
		{8, 0, now, slices.Repeat(slots(at(0, 0, 0, 0)), 17), api.ErrRange},
		{8, 0, now, make([]api.Slot, 1000), api.ErrRange},
		{7, 9, now, nil, api.ErrRange},
		{7, -1, now, slices.Repeat(slots(at(9, 9, 0, -1)), 17), api.ErrRange},
		{7, 1, now, one, api.ErrTwice},
		{7, 0, now, one, api.ErrTwice},
		{7, 9, now, slots(at(9, 9, 0, -1)), api.ErrTwice},
		{7, 0, now, slots(at(0, 0, 1, 0)), api.ErrTwice},
		{8, 2, now, one, api.ErrNone},
		{8, -1, now, one, api.ErrNone},
		{8, math.MinInt, now, one, api.ErrNone},
		{8, math.MaxInt, now, one, api.ErrNone},
		{8, 1 << 32, now, one, api.ErrNone},
		{8, 2, now, slots(at(9, 9, 0, -1)), api.ErrNone},
		{8, 2, now, slots(at(0, 0, 1, 0)), api.ErrNone},
		{8, 0, now, slots(at(0, 0, 2, -1)), api.ErrRange},
		{8, 0, now, slots(at(9, 0, 2, math.MinInt)), api.ErrRange},
		{8, 0, now, slots(at(3, 0, 0, 0)), api.ErrNone},
		{8, 0, now, slots(at(0, 2, 0, 0)), api.ErrNone},
		{8, 0, now, slots(at(-1, 0, 0, 0)), api.ErrNone},
		{8, 0, now, slots(at(0, -1, 0, 0)), api.ErrNone},
		{8, 0, now, slots(at(math.MaxInt, math.MinInt, 0, 0)), api.ErrNone},
		{8, 0, now, slots(at(2, 3, 0, 0)), api.ErrNone},
		{8, 0, now, slots(at(2, 0, 0, 0)), api.ErrState},
		{8, 0, now, slots(at(2, 0, 16, 9)), api.ErrState},
		{8, 0, now, slots(at(0, 0, 1, 0)), api.ErrBusy},
		{8, 0, now, slots(at(0, 0, 3, 0)), api.ErrBusy},
		{8, 0, now, slots(at(0, 0, 16, 0)), api.ErrBusy},
		{8, 0, now, slots(at(0, 0, 1<<63, 0)), api.ErrBusy},
		{8, 0, now, slots(at(0, 0, 0, 6)), api.ErrBusy},
		{8, 0, now, slots(at(0, 0, 0, math.MaxInt)), api.ErrBusy},
		{8, 1, now, slots(at(0, 0, 14, 6)), api.ErrBusy},
		{8, 0, now, slots(at(0, 0, 6, 0), at(0, 0, 4, 0)), api.ErrBusy},
		{8, 0, now, slots(at(0, 0, 2, 3), at(0, 0, 4, 3)), api.ErrBusy},
		{8, 0, now, slots(at(0, 0, 0, 1), at(0, 0, 0, math.MaxInt)), api.ErrBusy},
		{8, 0, now, append(slots(at(1, 0, 1, 1), at(0, 0, 2, 1)), at(0, 0, 0, -1), at(9, 0, 0, 0)), api.ErrRange},
		{8, 0, now, append(slots(at(1, 0, 1, 1), at(0, 0, 2, 1)), at(9, 0, 0, 0), at(0, 0, 0, -1)), api.ErrNone},
		{8, 0, now, append(slots(at(1, 0, 1, 1), at(0, 0, 2, 1)), at(2, 0, 0, 0), at(9, 0, 0, 0)), api.ErrState},
		{8, 0, now, append(slots(at(1, 0, 1, 1), at(0, 0, 2, 1)), at(0, 0, 1, 0), at(2, 0, 0, 0)), api.ErrBusy},
		{8, 1, now, slots(at(1, 0, 65535, 1024), at(0, 0, 1, 0)), api.ErrBusy},
		{8, 1, now, slots(at(1, 0, 65535, 1024), at(2, 0, 0, 0)), api.ErrState},
		{8, 1, now, slots(at(1, 0, 7, 0)), api.ErrQuota},
		{8, 1, now, slots(at(1, 0, 0, 3)), api.ErrQuota},
		{8, 1, now, slots(at(1, 0, 1, 0), at(1, 0, 2, 0), at(1, 0, 4, 0)), api.ErrQuota},
		{8, 1, now, slots(at(1, 0, 1, 1), at(0, 0, 2, 1), at(0, 1, 0, 1)), api.ErrQuota},
		{8, 1, now, slots(at(1, 0, 65535, 1024)), api.ErrQuota},
	} {
		if e := l.Reserve(x.id, x.queue, 5, x.version, x.l); e != x.e {
			t.Errorf("%d: Reserve(%d, %d, %d, %v) = %d, want %d", i, x.id, x.queue, x.version, x.l, e, x.e)
		}
		unchanged(t, l, was, fmt.Sprint(i))
	}
	reserve(t, l, hold(8, 1, 5, at(1, 0, 3, 2)))
}

// P8.1: one slot to 16 go, 17 don't, on one spot and on several.
func TestReserveCounts(t *testing.T) {
	c := even(3, 2, api.Domain{Gpus: 16, Cpus: 32})
	for n := range 20 {
		for spots := range 6 {
			l := made(t, c, plenty())
			var set []api.Slot
			for k := range n {
				set = append(set, at(k%(spots+1)/2, k%(spots+1)%2, 1<<(k%16), 1))
			}
			want := api.OK
			if n == 0 || n > 16 {
				want = api.ErrRange
			}
			was := told(l)
			if e := l.Reserve(3, 0, 1, 0, set); e != want {
				t.Fatalf("%d slots: %d", n, e)
			}
			if want != api.OK {
				unchanged(t, l, was, "Reserve")
				continue
			}
			holds(t, l, hold(3, 0, 1, set...))
			balanced(t, l, c, []api.Units{plenty()})
			release(t, l, hold(3, 0, 1, set...))
			balanced(t, l, c, []api.Units{plenty()})
		}
	}
}

// P8.1, P8.2: just what a queue has left goes, one unit more of each kind doesn't; what other queues use plays no part.
func TestQuota(t *testing.T) {
	c := even(2, 1, api.Domain{Gpus: 16, Cpus: 64})
	for _, quota := range []api.Units{{}, units(0, 5), units(5, 0), units(1, 1), units(6, 9), units(16, 64)} {
		for _, by := range []api.Units{{}, units(1, 0), units(0, 1), units(1, 1)} {
			l := made(t, c, units(16, 64), quota, plenty())
			start(t, l, run(1, 0, 5, at(1, 0, 65535, 64)))
			start(t, l, run(2, 1, 5, at(0, 0, 0, 0)))
			first := units(quota.Gpus/2, quota.Cpus/2)
			start(t, l, run(3, 1, 5, at(0, 0, 1<<first.Gpus-1, first.Cpus)))
			rest := units(quota.Gpus-first.Gpus+by.Gpus, quota.Cpus-first.Cpus+by.Cpus)
			s := at(0, 0, 65535<<first.Gpus&^(65535<<(first.Gpus+rest.Gpus)), rest.Cpus)
			want := api.OK
			if by != units(0, 0) {
				want = api.ErrQuota
			}
			if quota == units(16, 64) && by != units(0, 0) {
				// There are no more units in the spot than that.
				want = api.ErrBusy
			}
			was := told(l)
			if e := l.Reserve(4, 1, 5, l.Version(), slots(s)); e != want {
				t.Fatalf("%v and %v: Reserve: %d, want %d", quota, by, e, want)
			}
			if want == api.OK {
				release(t, l, hold(4, 1, 5, s))
			} else {
				unchanged(t, l, was, "Reserve")
			}
			was = told(l)
			if e := l.Grow(2, s); e != want {
				t.Fatalf("%v and %v: Grow: %d, want %d", quota, by, e, want)
			}
			if want == api.OK {
				if left, e := l.Left(1); left != units(0, 0) || e != api.OK {
					t.Error(left, e)
				}
			} else {
				unchanged(t, l, was, "Grow")
			}
			balanced(t, l, c, []api.Units{units(16, 64), quota, plenty()})
		}
	}
}

// P8.2: Commit at its Until, one below, one above; whatever tick it runs till.
func TestCommit(t *testing.T) {
	for _, until := range append(far(), 7) {
		for _, then := range far() {
			l := made(t, mixed(), plenty())
			h := hold(5, 0, until, at(0, 0, 1, 2), at(1, 0, 6, 0))
			reserve(t, l, h)
			was := told(l)
			if until < math.MaxInt {
				for _, now := range []int{until + 1, math.MaxInt} {
					if e := l.Commit(5, now, then); e != api.ErrLate {
						t.Fatalf("Commit(5, %d, %d) of Until %d = %d", now, then, until, e)
					}
					unchanged(t, l, was, "Commit")
				}
			}
			if until > math.MinInt && then > 0 {
				commit(t, l, 5, until-1, then)
			} else {
				commit(t, l, 5, until, then)
			}
			holds(t, l, run(5, 0, then, h.Slots...))
			version(t, l, 2)
			was = told(l)
			for _, now := range []int{until, then, math.MinInt, math.MaxInt} {
				if e := l.Commit(5, now, 3); e != api.ErrState {
					t.Fatalf("twice: %d", e)
				}
				unchanged(t, l, was, "Commit")
			}
		}
	}
}

// P8.2: an id without a hold has nothing that can be changed.
func TestNoHold(t *testing.T) {
	l := made(t, mixed(), plenty())
	start(t, l, run(5, 0, 9, at(1, 0, 1, 2), at(1, 0, 2, 0)))
	reserve(t, l, hold(9, 0, 9, at(1, 0, 4, 2)))
	was := told(l)
	for _, id := range append(far(), 4, 6, 8, 10, 5+1<<32, -5) {
		for _, n := range []int{math.MinInt, 0, 9, math.MaxInt} {
			if e := l.Commit(id, n, n); e != api.ErrNone {
				t.Errorf("Commit(%d): %d", id, e)
			}
		}
		for _, s := range slots(at(0, 0, 1, 1), at(0, 0, 0, -1), at(9, 9, 1, 1), at(1, 0, 1, 0)) {
			if e := l.Grow(id, s); e != api.ErrNone {
				t.Errorf("Grow(%d, %v): %d", id, s, e)
			}
		}
		if s, e := l.Shrink(id); s != (api.Slot{}) || e != api.ErrNone {
			t.Errorf("Shrink(%d): %v, %d", id, s, e)
		}
		if h, e := l.Release(id); fmt.Sprint(h) != fmt.Sprint(api.Hold{}) || e != api.ErrNone {
			t.Errorf("Release(%d): %v, %d", id, h, e)
		}
		unchanged(t, l, was, fmt.Sprint(id))
	}
}

// P8.2: a hold that isn't running neither grows nor shrinks, whatever slot it is and however many it has.
func TestNotRunning(t *testing.T) {
	l := made(t, mixed(), plenty(), units(0, 0))
	reserve(t, l, hold(1, 0, 9, at(1, 0, 1, 2)))
	reserve(t, l, hold(2, 0, 9, at(1, 0, 2, 2), at(1, 0, 4, 2)))
	reserve(t, l, hold(3, 1, 9, slices.Repeat(slots(at(1, 0, 0, 0)), 16)...))
	drain(t, l, 2)
	was := told(l)
	for id := 1; id <= 3; id++ {
		for _, s := range slots(at(0, 0, 1, 1), at(0, 0, 0, -1), at(9, 9, 1, 1), at(1, 0, 1, 0), at(2, 0, 1, 0), at(0, 0, 0, 0)) {
			if e := l.Grow(id, s); e != api.ErrState {
				t.Errorf("Grow(%d, %v): %d", id, s, e)
			}
		}
		if s, e := l.Shrink(id); s != (api.Slot{}) || e != api.ErrState {
			t.Errorf("Shrink(%d): %v, %d", id, s, e)
		}
		unchanged(t, l, was, fmt.Sprint(id))
	}
}

// P8.2: a hold grows to 16 slots, one behind the other, and shrinks to one, the last one first; it keeps its Until.
func TestGrowAndShrink(t *testing.T) {
	c, quotas := even(2, 2, api.Domain{Gpus: 8, Cpus: 16}), []api.Units{units(16, 32), units(1, 1)}
	l := made(t, c, quotas...)
	reserve(t, l, hold(2, 1, 4, at(0, 1, 128, 1)))
	set := slots(at(0, 0, 1, 2))
	start(t, l, run(7, 0, 9, set...))
	for n := 1; n < 16; n++ {
		s := at(n%2, n/8, 1<<(n/2%8), n%3)
		if n%2 == 0 {
			s.Spot.Domain = 0
		}
		if n == 9 {
			s = at(1, 0, 0, 0)
		}
		grow(t, l, 7, s)
		set = append(set, s)
		version(t, l, 3+n)
		holds(t, l, hold(2, 1, 4, at(0, 1, 128, 1)), run(7, 0, 9, set...))
		balanced(t, l, c, quotas)
	}
	was := told(l)
	for _, s := range slots(at(0, 1, 64, 0), at(0, 1, 0, 0), at(0, 1, 0, -1), at(9, 1, 0, 0), at(0, 1, 128, 0), at(0, 1, 127, 15)) {
		if e := l.Grow(7, s); e != api.ErrFull {
			t.Errorf("Grow(7, %v): %d", s, e)
		}
		unchanged(t, l, was, "Grow")
	}
	for n := 15; n > 0; n-- {
		shrink(t, l, 7, set[n])
		version(t, l, 18+16-n)
		holds(t, l, hold(2, 1, 4, at(0, 1, 128, 1)), run(7, 0, 9, set[:n]...))
		balanced(t, l, c, quotas)
	}
	was = told(l)
	if s, e := l.Shrink(7); s != (api.Slot{}) || e != api.ErrState {
		t.Error(s, e)
	}
	unchanged(t, l, was, "Shrink")
	grow(t, l, 7, set[5])
	holds(t, l, hold(2, 1, 4, at(0, 1, 128, 1)), run(7, 0, 9, set[0], set[5]))
}

// P8.2: a hold that was reserved with 16 slots is as full as one that grew to them; with 15 it has room for one.
func TestGrowReserved(t *testing.T) {
	for n := 15; n <= 16; n++ {
		l := made(t, mixed(), plenty())
		start(t, l, run(1, 0, 9, slices.Repeat(slots(at(1, 0, 0, 2)), n)...))
		if n == 15 {
			grow(t, l, 1, at(1, 0, 0, 2))
		}
		was := told(l)
		if e := l.Grow(1, at(1, 0, 0, 2)); e != api.ErrFull {
			t.Error(n, e)
		}
		unchanged(t, l, was, "Grow")
		shrink(t, l, 1, at(1, 0, 0, 2))
		grow(t, l, 1, at(0, 0, 1, 1))
		holds(t, l, run(1, 0, 9, append(slices.Repeat(slots(at(1, 0, 0, 2)), 15), at(0, 0, 1, 1))...))
	}
}

// P8.2: each of Grow's errors, alone and with those that are named behind it; nothing changes.
func TestGrowWrong(t *testing.T) {
	l := made(t, mixed(), units(3, 5), plenty())
	start(t, l, run(1, 0, 9, at(0, 0, 1, 3)))
	reserve(t, l, hold(2, 1, 9, at(1, 0, 1, 1)))
	drain(t, l, 2)
	was := told(l)
	for i, x := range []struct {
		s api.Slot
		e api.Errno
	}{
		{at(0, 0, 2, -1), api.ErrRange}, {at(9, 0, 2, -1), api.ErrRange}, {at(2, 0, 2, math.MinInt), api.ErrRange}, {at(0, 0, 1, -1), api.ErrRange},
		{at(3, 0, 0, 0), api.ErrNone}, {at(-1, 0, 0, 0), api.ErrNone}, {at(0, 2, 0, 0), api.ErrNone}, {at(2, 3, 1, 1), api.ErrNone},
		{at(2, 0, 1, 0), api.ErrState}, {at(2, 1, 0, 0), api.ErrState}, {at(2, 2, 2, 2), api.ErrState},
		{at(0, 0, 1, 0), api.ErrBusy}, {at(1, 0, 1, 0), api.ErrBusy}, {at(0, 0, 3, 0), api.ErrBusy}, {at(0, 0, 16, 0), api.ErrBusy},
		{at(0, 0, 0, 6), api.ErrBusy}, {at(0, 0, 14, 6), api.ErrBusy}, {at(0, 0, 15, 3), api.ErrBusy}, {at(1, 0, 2, math.MaxInt), api.ErrBusy},
		{at(0, 0, 14, 0), api.ErrQuota}, {at(0, 0, 0, 3), api.ErrQuota}, {at(1, 0, 65534, 1023), api.ErrQuota},
	} {
		if e := l.Grow(1, x.s); e != x.e {
			t.Errorf("%d: Grow(1, %v) = %d, want %d", i, x.s, e, x.e)
		}
		unchanged(t, l, was, fmt.Sprint(i))
	}
	grow(t, l, 1, at(0, 0, 6, 2))
	holds(t, l, run(1, 0, 9, at(0, 0, 1, 3), at(0, 0, 6, 2)), hold(2, 1, 9, at(1, 0, 1, 1)))
}

// P8.2: a hold is told whole when it is released, running or not, and its units are free, its queue's use gone.
func TestRelease(t *testing.T) {
	c, quotas := mixed(), []api.Units{units(3, 6), plenty()}
	l := made(t, c, quotas...)
	one, two, three := run(1, 0, 30, at(0, 0, 1, 2), at(1, 0, 2, 3)), hold(2, 1, 20, at(1, 0, 12, 0)), run(-3, 1, 10, at(2, 0, 7, 0), at(0, 1, 0, 6))
	for _, order := range [][]api.Hold{{one, two, three}, {three, two, one}, {two, three, one}, {one, three, two}} {
		was := l.Version()
		for _, h := range []api.Hold{one, two, three} {
			start(t, l, h)
		}
		for k, h := range order {
			release(t, l, h)
			version(t, l, was+6+k)
			holds(t, l, slices.DeleteFunc([]api.Hold{three, one, two}, func(x api.Hold) bool {
				return slices.ContainsFunc(order[:k+1], func(y api.Hold) bool { return x.Id == y.Id })
			})...)
			balanced(t, l, c, quotas)
			if _, e := l.Release(h.Id); e != api.ErrNone {
				t.Error(e)
			}
		}
		if !slices.Equal(l.Used(), make([]api.Units, 2)) {
			t.Error(l.Used())
		}
	}
}

// P8.3: those that aren't running go above their Until, and at it they don't; those that run stay, however late it is.
func TestExpire(t *testing.T) {
	c, quotas := even(2, 1, api.Domain{Gpus: 8, Cpus: 8}), []api.Units{plenty(), plenty()}
	all := []api.Hold{hold(9, 0, 5, at(0, 0, 1, 1), at(1, 0, 1, 1)), hold(-4, 1, 5, at(0, 0, 2, 0)), hold(3, 0, 6, at(0, 0, 4, 0)), run(1, 0, 5, at(0, 0, 8, 0)),
		run(12, 1, 0, at(0, 0, 16, 0)), hold(6, 1, -2, at(0, 0, 0, 3)), hold(7, 1, 1<<40, at(1, 0, 2, 0)), hold(2, 0, 5, at(1, 0, 0, 2)), hold(20, 0, math.MaxInt, at(1, 0, 4, 0)), hold(21, 0, math.MinInt, at(1, 0, 8, 0))}
	for _, x := range []struct {
		now int
		ids []int
	}{
		{math.MinInt, nil}, {math.MinInt + 1, []int{21}}, {-3, []int{21}}, {-2, []int{21}}, {-1, []int{6, 21}}, {0, []int{6, 21}}, {4, []int{6, 21}}, {5, []int{6, 21}},
		{6, []int{-4, 2, 6, 9, 21}}, {7, []int{-4, 2, 3, 6, 9, 21}}, {1 << 40, []int{-4, 2, 3, 6, 9, 21}}, {1<<40 + 1, []int{-4, 2, 3, 6, 7, 9, 21}}, {math.MaxInt, []int{-4, 2, 3, 6, 7, 9, 21}},
	} {
		l := made(t, c, quotas...)
		for _, h := range all {
			start(t, l, h)
		}
		was := l.Version()
		expire(t, l, x.now, x.ids...)
		if len(x.ids) > 0 {
			was++
		}
		version(t, l, was)
		stay := slices.DeleteFunc(slices.Clone(all), func(h api.Hold) bool { return slices.Contains(x.ids, h.Id) })
		slices.SortFunc(stay, func(a, b api.Hold) int { return a.Id - b.Id })
		holds(t, l, stay...)
		balanced(t, l, c, quotas)
		expire(t, l, x.now)
		expire(t, l, math.MinInt)
		version(t, l, was)
	}
}

// P8.3: an Expire of a ledger without holds, or where all run, changes nothing.
func TestExpireNothing(t *testing.T) {
	l := made(t, mixed(), plenty())
	for _, h := range []api.Hold{run(1, 0, 3, at(0, 0, 1, 1)), run(2, 0, -3, at(0, 0, 2, 1))} {
		was := told(l)
		for _, now := range far() {
			expire(t, l, now)
			unchanged(t, l, was, fmt.Sprint(now))
		}
		start(t, l, h)
	}
}

// drainable are holds of four nodes: node 0 is touched by none, node 1 by one, node 2 by three, node 3 by one, with others.
func drainable() []api.Hold {
	return []api.Hold{run(8, 0, 9, at(1, 0, 1, 1)), hold(5, 0, 9, at(2, 0, 1, 1), at(2, 1, 1, 1)), run(3, 1, 9, at(2, 1, 2, 0)), hold(-6, 1, 9, at(3, 0, 1, 1), at(3, 1, 0, 0), at(2, 0, 0, 0))}
}

// P8.3: those that have a slot of a drained node go, whole; all others stay; the version is one more.
func TestDrain(t *testing.T) {
	c, quotas := even(4, 2, api.Domain{Gpus: 4, Cpus: 8}), []api.Units{plenty(), plenty()}
	for node, ids := range [][]int{nil, {8}, {-6, 3, 5}, {-6}} {
		l := made(t, c, quotas...)
		for _, h := range drainable() {
			start(t, l, h)
		}
		was := l.Version()
		drain(t, l, node, ids...)
		version(t, l, was+1)
		stay := slices.DeleteFunc(drainable(), func(h api.Hold) bool { return slices.Contains(ids, h.Id) })
		slices.SortFunc(stay, func(a, b api.Hold) int { return a.Id - b.Id })
		holds(t, l, stay...)
		balanced(t, l, c, quotas)
		for n, d := range l.Drained() {
			if d != (n == node) {
				t.Error(node, l.Drained())
			}
		}
		if len(l.Free()) != 8 || len(l.View()) != 6 || slices.ContainsFunc(l.View(), func(f api.Free) bool { return f.Spot.Node == node }) {
			t.Error(l.Free(), l.View())
		}
		text := told(l)
		if x, e := l.Drain(node); len(x) != 0 || e != api.ErrTwice {
			t.Error(x, e)
		}
		if e := l.Reserve(50, 0, 9, l.Version(), slots(at(node, 1, 0, 0))); e != api.ErrState {
			t.Error(e)
		}
		unchanged(t, l, text, "twice")
		undrain(t, l, node)
		version(t, l, was+2)
		if slices.Contains(l.Drained(), true) || !slices.Equal(l.View(), l.Free()) {
			t.Error(l.Drained(), l.View())
		}
		holds(t, l, stay...)
		text = told(l)
		if e := l.Undrain(node); e != api.ErrNone {
			t.Error(e)
		}
		unchanged(t, l, text, "twice")
		reserve(t, l, hold(50, 0, 9, at(node, 1, 8, 0)))
	}
}

// P8.3: all nodes, one behind the other, and back; each hold goes once.
func TestDrainAll(t *testing.T) {
	c := even(4, 2, api.Domain{Gpus: 4, Cpus: 8})
	l := made(t, c, plenty(), plenty())
	for _, h := range drainable() {
		start(t, l, h)
	}
	drain(t, l, 3, -6)
	drain(t, l, 0)
	drain(t, l, 2, 3, 5)
	if d := l.Drained(); !slices.Equal(d, []bool{true, false, true, true}) {
		t.Error(d)
	}
	grow(t, l, 8, at(1, 1, 1, 0))
	drain(t, l, 1, 8)
	holds(t, l)
	if len(l.View()) != 0 || fmt.Sprint(l.Free()) != fmt.Sprint(slowMade(c).free()) {
		t.Error(l.View(), l.Free())
	}
	version(t, l, 6+5)
	for node := range 4 {
		undrain(t, l, node)
	}
	version(t, l, 15)
	reserve(t, l, hold(8, 0, 3, at(1, 0, 15, 8), at(2, 1, 15, 8)))
}

// P8.3: nodes that aren't there, and such as are not, or already, drained; nothing changes.
func TestDrainWrong(t *testing.T) {
	l := made(t, mixed(), plenty())
	start(t, l, run(5, 0, 9, at(1, 0, 1, 2), at(0, 0, 2, 0)))
	drain(t, l, 2)
	was := told(l)
	for _, n := range append(far(), 3, 4, 15, 17, 1<<32, 2+1<<32) {
		if n >= 0 && n < 3 {
			continue
		}
		if ids, e := l.Drain(n); len(ids) != 0 || e != api.ErrRange {
			t.Errorf("Drain(%d) = %v, %d", n, ids, e)
		}
		if e := l.Undrain(n); e != api.ErrRange {
			t.Errorf("Undrain(%d) = %d", n, e)
		}
		unchanged(t, l, was, fmt.Sprint(n))
	}
	for n := range 2 {
		if e := l.Undrain(n); e != api.ErrNone {
			t.Errorf("Undrain(%d) = %d", n, e)
		}
		unchanged(t, l, was, fmt.Sprint(n))
	}
}

// P8.1: an id that was released, that expired, that was drained, is reserved anew, as if it had never been.
func TestAnew(t *testing.T) {
	c, quotas := even(2, 1, api.Domain{Gpus: 4, Cpus: 8}), []api.Units{units(3, 4), units(4, 8)}
	l := made(t, c, quotas...)
	first := hold(5, 0, 6, at(0, 0, 7, 4))
	ways := []func(){
		func() { release(t, l, first) },
		func() { expire(t, l, 7, 5) },
		func() { drain(t, l, 0, 5); undrain(t, l, 0) },
		func() {
			commit(t, l, 5, 6, 6)
			release(t, l, run(5, 0, 6, first.Slots...))
		},
	}
	for _, goes := range ways {
		reserve(t, l, first)
		if e := l.Reserve(5, 1, 6, l.Version(), slots(at(1, 0, 1, 1))); e != api.ErrTwice {
			t.Error(e)
		}
		goes()
		holds(t, l)
		anew := hold(5, 1, 2, at(1, 0, 15, 0), at(0, 0, 0, 8))
		reserve(t, l, anew)
		holds(t, l, anew)
		balanced(t, l, c, quotas)
		release(t, l, anew)
	}
}

// P8.4: holds come rising by their Ids, each once, in whichever order they came.
func TestHoldsRise(t *testing.T) {
	d := draws(84)
	for range 20 {
		l := made(t, even(4, 4, api.Domain{Gpus: 16, Cpus: 1024}), plenty())
		ids := far()
		for k := range 60 {
			ids = append(ids, 100+k)
		}
		for k := range ids {
			j := d.below(k + 1)
			ids[k], ids[j] = ids[j], ids[k]
		}
		for k, id := range ids {
			reserve(t, l, hold(id, 0, k, at(k%4, k/4%4, 0, k)))
		}
		slices.Sort(ids)
		var is []int
		for _, h := range l.Holds() {
			is = append(is, h.Id)
		}
		if !slices.Equal(is, ids) {
			t.Fatal(is)
		}
		expire(t, l, 1<<20, ids...)
	}
}

// Rule 3: what is handed in is neither changed nor kept, its spare room neither.
func TestHandedIn(t *testing.T) {
	quotas := []api.Units{units(40, 40), units(1, 2), units(77, 78)}
	c := mixed()
	l, _ := ledger.New(c, quotas[:2])
	c.Nodes[0].Domains[0], c.Nodes[2] = api.Domain{Gpus: 1}, api.Node{}
	quotas[0], quotas[1], quotas[2] = units(0, 0), units(99, 99), units(99, 99)
	unchanged(t, l, slowMade(mixed(), units(40, 40), units(1, 2)).told(), "New")
	set := slots(at(0, 0, 1, 1), at(1, 0, 2, 2), at(1, 0, 4, 3), at(1, 0, 8, 4))
	was := slices.Clone(set)
	reserve(t, l, hold(1, 0, 5, set[:2]...))
	if e := l.Reserve(2, 0, 5, 1, set[1:3]); e != api.ErrBusy {
		t.Error(e)
	}
	commit(t, l, 1, 5, 9)
	grow(t, l, 1, at(0, 0, 2, 0))
	shrink(t, l, 1, at(0, 0, 2, 0))
	shrink(t, l, 1, was[1])
	grow(t, l, 1, at(0, 0, 4, 0))
	if !slices.Equal(set, was) {
		t.Fatal(set)
	}
	text := told(l)
	for k := range set {
		set[k] = at(7, 7, 7, 7)
	}
	unchanged(t, l, text, "written to")
	release(t, l, run(1, 0, 9, was[0], at(0, 0, 4, 0)))
	balanced(t, l, mixed(), []api.Units{units(40, 40), units(1, 2)})
}

// scrawl writes into a list, its spare room too.
func scrawl[T any](l []T, x T) {
	for k := range l {
		l[k] = x
	}
	l = l[:cap(l)]
	for k := range l {
		l[k] = x
	}
	_ = append(l, x)
}

// Rule 3: what is told can be written to and appended to without a change to the ledger, or to what else was told.
func TestHandedOut(t *testing.T) {
	l := made(t, even(3, 1, api.Domain{Gpus: 8, Cpus: 8}), plenty(), units(4, 4))
	start(t, l, run(4, 0, 5, at(0, 0, 1, 1), at(1, 0, 1, 1), at(0, 0, 4, 0)))
	shrink(t, l, 4, at(0, 0, 4, 0))
	reserve(t, l, hold(2, 1, 5, at(0, 0, 2, 1), at(0, 0, 8, 0)))
	reserve(t, l, hold(3, 1, 1, at(2, 0, 1, 1)))
	reserve(t, l, hold(1, 1, 1, at(2, 0, 2, 1)))
	was, kept := told(l), l.Holds()
	text := fmt.Sprint(kept)
	for range 2 {
		for _, h := range l.Holds() {
			scrawl(h.Slots, at(7, 7, 7, 7))
		}
		scrawl(l.Holds(), run(77, 77, 77))
		scrawl(l.Free(), free(7, 7, 7, 7))
		scrawl(l.View(), free(7, 7, 7, 7))
		scrawl(l.Used(), units(7, 7))
		scrawl(l.Drained(), true)
		unchanged(t, l, was, "written to")
	}
	x, y := l.Holds(), l.Holds()
	scrawl(x[1].Slots, at(7, 7, 7, 7))
	scrawl(x[3].Slots, at(8, 8, 8, 8))
	if fmt.Sprint(y) != text || fmt.Sprint(kept) != text || fmt.Sprint(x[0], x[2]) != fmt.Sprint(y[0], y[2]) {
		t.Error(x, y, kept)
	}
	scrawl(l.Expire(2), 7)
	h, e := l.Release(4)
	if e != api.OK {
		t.Fatal(e)
	}
	scrawl(h.Slots, at(7, 7, 7, 7))
	holds(t, l, hold(2, 1, 5, at(0, 0, 2, 1), at(0, 0, 8, 0)))
	ids, _ := l.Drain(0)
	scrawl(ids, 7)
	holds(t, l)
	// What was told isn't changed by what comes to pass behind it.
	if fmt.Sprint(kept) != text {
		t.Error(kept)
	}
}

// Rule 4: two ledgers have nothing in common.
func TestTwoLedgers(t *testing.T) {
	c, quotas := mixed(), []api.Units{units(5, 8), units(1, 2)}
	a, _ := ledger.New(c, quotas)
	b, _ := ledger.New(c, quotas)
	was, set := told(b), slots(at(0, 0, 1, 1), at(0, 0, 2, 1))
	start(t, a, run(1, 0, 5, set...))
	drain(t, a, 1)
	unchanged(t, b, was, "the other one")
	reserve(t, b, hold(1, 0, 3, set...))
	was = told(b)
	shrink(t, a, 1, set[1])
	drain(t, a, 0, 1)
	unchanged(t, b, was, "the other one")
	version(t, b, 1)
	version(t, a, 5)
}

// pair calls a ledger and its slow twin, and holds what they answer against each other.
type pair struct {
	l *ledger.Ledger
	s *slow
	d *draws
}

// number is mostly below n, seldom wrong, or far away.
func (p pair) number(n int) int {
	switch p.d.below(24) {
	case 0:
		return -1 - p.d.below(2)
	case 1:
		return n + p.d.below(2)
	case 2:
		return far()[p.d.below(len(far()))]
	}
	return p.d.below(n)
}

// slot is mostly small, and mostly one that is free.
func (p pair) slot() api.Slot {
	if p.d.below(8) == 0 {
		return at(p.number(3), p.number(2), uint64(p.d.below(16)), p.number(5))
	}
	f := p.s.free()
	x := f[p.d.below(len(f))]
	return api.Slot{Spot: x.Spot, Mask: x.Mask & uint64(p.d.below(256)) & uint64(p.d.below(256)), Cpus: p.d.below(x.Cpus/2 + 1)}
}

func (p pair) slots() []api.Slot {
	var set []api.Slot
	n := 1 + p.d.below(3)
	if p.d.below(12) == 0 {
		n = p.d.below(19)
	}
	for range n {
		set = append(set, p.slot())
	}
	return set
}

// call is what one call of any kind, of both, answers, and its name.
func (p pair) call() (string, string, string) {
	id, now, node := p.number(7), p.number(12), p.number(len(p.s.drained))
	switch p.d.below(15) {
	default:
		queue, v, set := p.number(len(p.s.quotas)), p.s.version, p.slots()
		if p.d.below(8) == 0 {
			v += p.d.below(3) - 1
		}
		return fmt.Sprint("Reserve ", id, queue, now, v, set), fmt.Sprint(p.l.Reserve(id, queue, now, v, set)), fmt.Sprint(p.s.reserve(id, queue, now, v, set))
	case 4, 5:
		return fmt.Sprint("Commit ", id, now), fmt.Sprint(p.l.Commit(id, now/2, now)), fmt.Sprint(p.s.commit(id, now/2, now))
	case 6, 7, 12:
		x := p.slot()
		return fmt.Sprint("Grow ", id, x), fmt.Sprint(p.l.Grow(id, x)), fmt.Sprint(p.s.grow(id, x))
	case 8, 13:
		return fmt.Sprint("Shrink ", id), fmt.Sprint(p.l.Shrink(id)), fmt.Sprint(p.s.shrink(id))
	case 9:
		return fmt.Sprint("Release ", id), fmt.Sprint(p.l.Release(id)), fmt.Sprint(p.s.release(id))
	case 10:
		if p.d.below(2) == 0 {
			now = p.d.below(4)
		}
		return fmt.Sprint("Expire ", now), fmt.Sprint(p.l.Expire(now)), fmt.Sprint(p.s.expire(now))
	case 11:
		if p.d.below(3) > 0 {
			return fmt.Sprint("Undrain ", node), fmt.Sprint(p.l.Undrain(node)), fmt.Sprint(p.s.undrain(node))
		}
		return fmt.Sprint("Drain ", node), fmt.Sprint(p.l.Drain(node)), fmt.Sprint(p.s.drain(node))
	}
}

// P8.1 to P8.5: long rows of calls of all kinds are as they are told plainly, and nothing is lost or held twice.
func TestRows(t *testing.T) {
	d, went := draws(8), map[byte]int{}
	for row := range 80 {
		var c api.Cluster
		for range 1 + d.below(3) {
			var n api.Node
			for range 1 + d.below(2) {
				n.Domains = append(n.Domains, api.Domain{Gpus: d.below(9), Cpus: d.below(20)})
			}
			c.Nodes = append(c.Nodes, n)
		}
		var quotas []api.Units
		for range 1 + d.below(3) {
			quotas = append(quotas, units(d.below(16), d.below(40)))
		}
		p := pair{made(t, c, quotas...), slowMade(c, quotas...), &d}
		for step := range 300 {
			was := p.s.version
			name, is, want := p.call()
			if is != want || told(p.l) != p.s.told() {
				t.Fatalf("%d, %d: %s = %s, want %s:\n%s, want\n%s", row, step, name, is, want, told(p.l), p.s.told())
			}
			balanced(t, p.l, c, quotas)
			went[name[0]] += p.s.version - was
		}
	}
	for _, name := range []byte("RCGSEDU") {
		if went[name] < 100 {
			t.Errorf("of %c only %d calls changed anything: the rows are too thin", name, went[name])
		}
	}
}

// P0.2: what is over gives back all that it had.
func TestAllGivenBack(t *testing.T) {
	d := draws(12)
	for range 40 {
		c, quotas := mixed(), []api.Units{plenty(), units(6, 40)}
		p := pair{made(t, c, quotas...), slowMade(c, quotas...), &d}
		for range 100 {
			p.call()
		}
		for _, h := range p.l.Holds() {
			release(t, p.l, h)
		}
		if fmt.Sprint(p.l.Free()) != fmt.Sprint(slowMade(c).free()) || !slices.Equal(p.l.Used(), make([]api.Units, 2)) {
			t.Fatal(p.l.Free(), p.l.Used())
		}
	}
}

// atOnce makes n calls, which wait for each other ahead of it, and is back when all are done.
func atOnce(n int, call func(k int)) {
	var wait sync.WaitGroup
	start := make(chan bool)
	for k := range n {
		wait.Go(func() {
			<-start
			call(k)
		})
	}
	close(start)
	wait.Wait()
}

// Each call is done whole: of many who reserve of one version at once, just one does; so with all other calls that change the ledger.
func TestOneAtOnce(t *testing.T) {
	c, quotas := even(16, 4, api.Domain{Gpus: 16, Cpus: 16}), []api.Units{plenty()}
	for range 300 {
		l := made(t, c, quotas...)
		one := func(name string, other api.Errno, call func(k int) api.Errno) {
			t.Helper()
			was := l.Version()
			var errors [16]api.Errno
			atOnce(16, func(k int) { errors[k] = call(k) })
			slices.Sort(errors[:])
			if errors[0] != api.OK || errors[1] != other || errors[15] != other || l.Version() != was+1 {
				t.Fatal(name, errors, was, l.Version())
			}
			balanced(t, l, c, quotas)
		}
		one("Reserve", api.ErrLost, func(k int) api.Errno {
			return l.Reserve(k, 0, 5, 0, slices.Repeat(slots(at(k, 3, 0, 1)), 16))
		})
		id := l.Holds()[0].Id
		one("Commit", api.ErrState, func(k int) api.Errno { return l.Commit(id, 0, 9) })
		shrink(t, l, id, at(id, 3, 0, 1))
		one("Grow", api.ErrFull, func(k int) api.Errno { return l.Grow(id, at(k, 2, 1, 1)) })
		one("Release", api.ErrNone, func(k int) api.Errno { _, e := l.Release(id); return e })
		one("Drain", api.ErrTwice, func(k int) api.Errno { _, e := l.Drain(7); return e })
		one("Undrain", api.ErrNone, func(k int) api.Errno { return l.Undrain(7) })
		start(t, l, run(3, 0, 5, at(0, 0, 1, 1), at(0, 0, 2, 1)))
		one("Shrink", api.ErrState, func(k int) api.Errno { _, e := l.Shrink(3); return e })
		reserve(t, l, hold(4, 0, 5, slices.Repeat(slots(at(0, 1, 0, 1)), 16)...))
		one("Expire", api.ErrNone, func(k int) api.Errno {
			if slices.Equal(l.Expire(6), []int{4}) {
				return api.OK
			}
			return api.ErrNone
		})
	}
}

// Each call is done whole: four who go through all holds at once change each of them once.
func TestEachOnce(t *testing.T) {
	const ids = 1000
	c, quotas := even(1, 1, api.Domain{Gpus: 16, Cpus: 1024}), []api.Units{plenty()}
	l := made(t, c, quotas...)
	for id := range ids {
		reserve(t, l, hold(id, 0, 5, at(0, 0, 0, 1)))
	}
	for _, call := range []func(id int) api.Errno{
		func(id int) api.Errno { return l.Commit(id, 5, 9) },
		func(id int) api.Errno { _, e := l.Release(id); return e },
	} {
		was := l.Version()
		var went [4]int
		atOnce(4, func(k int) {
			for id := range ids {
				if call(id) == api.OK {
					went[k]++
				}
			}
		})
		if n := went[0] + went[1] + went[2] + went[3]; n != ids || l.Version() != was+ids {
			t.Fatal(went, was, l.Version())
		}
		balanced(t, l, c, quotas)
	}
	holds(t, l)
}

// Each call is done whole: who looks on sees all of a hold taken and used, or nothing, however many call at once; and nothing is lost.
func TestWholeAtOnce(t *testing.T) {
	c, quotas := even(16, 1, api.Domain{Gpus: 4, Cpus: 4}), []api.Units{units(64, 64)}
	l := made(t, c, quotas...)
	change := func(k int) {
		var set []api.Slot
		for n := range 15 {
			set = append(set, at(n, 0, 1<<k, 1))
		}
		for n := range 2000 {
			if l.Reserve(k, 0, n, l.Version(), set) != api.OK {
				continue
			}
			l.Commit(k, n, n)
			l.Grow(k, at(15, 0, 1<<k, 1))
			l.Shrink(k)
			if h, e := l.Release(k); e != api.OK || !slices.Equal(h.Slots, set) {
				t.Errorf("Release(%d) = %v, %d", k, h, e)
				return
			}
		}
	}
	apart := func(f []api.Free) bool {
		return slices.ContainsFunc(f[:15], func(x api.Free) bool { return x.Mask != f[0].Mask || x.Cpus != f[0].Cpus })
	}
	lookers := []func() bool{
		func() bool { return apart(l.Free()) },
		func() bool { return apart(l.View()) },
		func() bool { u := l.Used()[0]; return u.Gpus != u.Cpus },
		func() bool { u, _ := l.Left(0); return u.Gpus != u.Cpus },
		func() bool {
			return slices.ContainsFunc(l.Holds(), func(h api.Hold) bool { return len(h.Slots) < 15 || len(h.Slots) > 16 })
		},
		func() bool { return l.Drained()[3] || len(l.Expire(-1)) > 0 },
	}
	atOnce(4+len(lookers), func(k int) {
		if k < 4 {
			change(k)
			return
		}
		for range 4000 {
			if lookers[k-4]() {
				t.Errorf("looker %d sees something that is half done", k-4)
				return
			}
		}
	})
	holds(t, l)
	balanced(t, l, c, quotas)
}

// Each call is done whole: of what a queue has left, and uses, both kinds are of one moment.
func TestUnitsAtOnce(t *testing.T) {
	l := made(t, even(1, 1, api.Domain{Gpus: 16, Cpus: 16}), units(16, 16))
	set, done := slots(at(0, 0, 65535, 16)), make(chan bool)
	// Each of them asks without a pause: only so it is likely that it asks amid a change.
	lookers := []func() api.Units{
		func() api.Units { u, _ := l.Left(0); return u },
		func() api.Units { return l.Used()[0] },
	}
	change := func() {
		defer close(done)
		for n := range 20000 {
			if e := l.Reserve(n, 0, 5, 2*n, set); e != api.OK {
				t.Errorf("Reserve(%d) = %d", n, e)
				return
			}
			l.Release(n)
		}
	}
	atOnce(1+len(lookers), func(k int) {
		if k == len(lookers) {
			change()
			return
		}
		for {
			select {
			case <-done:
				return
			default:
			}
			if u := lookers[k](); u.Gpus != u.Cpus {
				t.Errorf("looker %d sees something that is half done: %v", k, u)
				return
			}
		}
	})
}
