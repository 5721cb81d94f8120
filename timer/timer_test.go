package timer_test

import (
	"cmp"
	"fmt"
	"maps"
	"math"
	"slices"
	"testing"

	"ensemble/api"
	"ensemble/timer"
)

const (
	last = 1 << 30
	full = 4096
)

// entry is an id, and the tick at which it is due.
type entry struct{ id, tick int }

// made is a timer of such entries, set in their order.
func made(t *testing.T, entries ...entry) *timer.Timer {
	t.Helper()
	x := timer.New()
	if x == nil {
		t.Fatal("New() = nil")
	}
	for _, y := range entries {
		set(t, x, y.id, y.tick)
	}
	return x
}

func set(t *testing.T, x *timer.Timer, id, tick int) {
	t.Helper()
	if e := x.Set(id, tick); e != api.OK {
		t.Fatalf("Set(%d, %d) = %d", id, tick, e)
	}
}

func drop(t *testing.T, x *timer.Timer, id int) {
	t.Helper()
	if e := x.Drop(id); e != api.OK {
		t.Fatalf("Drop(%d) = %d", id, e)
	}
}

// due asks what is due at a tick, and holds it against ids.
func due(t *testing.T, x *timer.Timer, now int, ids ...int) {
	t.Helper()
	if l := x.Due(now); !slices.Equal(l, ids) {
		t.Fatalf("Due(%d) = %v, want %v", now, l, ids)
	}
}

// slow is a timer told plainly: each id's tick.
type slow map[int]int

func (s slow) set(id, tick int) api.Errno {
	if tick < 0 || tick > last {
		return api.ErrRange
	}
	if _, ok := s[id]; !ok && len(s) == full {
		return api.ErrFull
	}
	s[id] = tick
	return api.OK
}

func (s slow) drop(id int) api.Errno {
	if _, ok := s[id]; !ok {
		return api.ErrNone
	}
	delete(s, id)
	return api.OK
}

// entries are all of them, rising.
func (s slow) entries() []entry {
	var l []entry
	for id, tick := range s {
		l = append(l, entry{id, tick})
	}
	slices.SortFunc(l, func(a, b entry) int {
		return cmp.Or(cmp.Compare(a.tick, b.tick), cmp.Compare(a.id, b.id))
	})
	return l
}

func (s slow) due(now int) []int {
	var ids []int
	for _, x := range s.entries() {
		if x.tick <= now {
			ids = append(ids, x.id)
			delete(s, x.id)
		}
	}
	return ids
}

// same holds all that a timer tells, but Due, against what is plainly so; of ids too that have no entry.
func same(t *testing.T, x *timer.Timer, s slow, others ...int) {
	t.Helper()
	want, some := 0, len(s) > 0
	if some {
		want = slices.Min(slices.Collect(maps.Values(s)))
	}
	if n, ok := x.Next(); n != want || ok != some {
		t.Fatalf("Next() = %d, %v, want %d, %v", n, ok, want, some)
	}
	if n := x.Len(); n != len(s) {
		t.Fatalf("Len() = %d, want %d", n, len(s))
	}
	for id, tick := range s {
		if n, e := x.At(id); n != tick || e != api.OK {
			t.Fatalf("At(%d) = %d, %d, want %d", id, n, e, tick)
		}
	}
	for _, id := range others {
		if _, ok := s[id]; ok {
			continue
		}
		if n, e := x.At(id); n != 0 || e != api.ErrNone {
			t.Fatalf("At(%d) = %d, %d, but there is none", id, n, e)
		}
	}
}

// told is all that a timer tells and will tell, as a text: it is empty then.
func told(x *timer.Timer) string {
	next, ok := x.Next()
	var l []string
	for n := x.Len(); n > 0; n-- {
		tick, _ := x.Next()
		l = append(l, fmt.Sprint(tick, x.Due(tick)))
	}
	return fmt.Sprint(next, ok, l, x.Len())
}

// wrongTicks are ticks that may not be.
func wrongTicks() []int {
	return []int{-1, -2, last + 1, last + 2, -last, math.MinInt, math.MaxInt, math.MinInt + 1, 1 << 31, 1 << 32, -1 << 32, 1<<32 + 5, 1<<63 - 8}
}

// farIds are ids of each kind: below 0, 0, small and far away.
func farIds() []int {
	return []int{math.MinInt, math.MinInt + 1, -1 << 32, -65536, -7, -1, 0, 1, 7, 65535, 65536, 1 << 32, math.MaxInt - 1, math.MaxInt}
}

// numbered has each id below n, at a tick like it.
func numbered(n int) slow {
	s := slow{}
	for i := range n {
		s[i] = i
	}
	return s
}

// draws is a fixed row of numbers.
type draws uint64

func (d *draws) below(n int) int {
	*d ^= *d << 13
	*d ^= *d >> 7
	*d ^= *d << 17
	return int(uint64(*d>>11) % uint64(n))
}

// mixedUp is 0 to n-1, each once.
func (d *draws) mixedUp(n int) []int {
	l := make([]int, n)
	for i := range l {
		k := d.below(i + 1)
		l[i], l[k] = l[k], i
	}
	return l
}

// The chapter's example.
func TestExample(t *testing.T) {
	x := made(t, entry{7, 5}, entry{3, 5}, entry{9, 4})
	due(t, x, 5, 9, 3, 7)
	same(t, x, slow{}, 3, 7, 9)
}

// P7.1, P7.2: a timer without entries.
func TestEmpty(t *testing.T) {
	x := made(t)
	for _, now := range []int{0, 1, -1, last, last + 1, math.MinInt, math.MaxInt} {
		due(t, x, now)
		same(t, x, slow{}, farIds()...)
	}
	for _, id := range farIds() {
		if e := x.Drop(id); e != api.ErrNone {
			t.Errorf("Drop(%d) = %d", id, e)
		}
		for _, tick := range wrongTicks() {
			if e := x.Set(id, tick); e != api.ErrRange {
				t.Errorf("Set(%d, %d) = %d", id, tick, e)
			}
		}
		same(t, x, slow{}, farIds()...)
	}
	due(t, x, math.MaxInt)
}

// P7.1, P7.2: one entry, of each kind of id and of tick; just at its tick it is due, and then there no more.
func TestOne(t *testing.T) {
	for _, id := range farIds() {
		for _, tick := range []int{0, 1, 2, 5, 1 << 16, last - 1, last} {
			x := made(t, entry{id, tick})
			s := slow{id: tick}
			same(t, x, s, farIds()...)
			for _, now := range []int{tick - 1, -1, -tick - 1, math.MinInt} {
				due(t, x, now)
				same(t, x, s, farIds()...)
			}
			due(t, x, tick, id)
			same(t, x, slow{}, farIds()...)
			due(t, x, tick)
			due(t, x, math.MaxInt)
			for _, now := range []int{tick + 1, last, last + 1, 1 << 40, math.MaxInt} {
				y := made(t, entry{id, tick})
				due(t, y, max(now, tick), id)
				same(t, y, slow{}, farIds()...)
			}
		}
	}
}

// P7.1: ticks that may not be, for an id that is there and for one that isn't; nothing changes.
func TestWrongTicks(t *testing.T) {
	s := slow{7: 5, -3: 0, 0: last, 1 << 40: 5}
	x := made(t, s.entries()...)
	for _, id := range append(farIds(), 1<<40, 2, -3) {
		for _, tick := range wrongTicks() {
			if e := x.Set(id, tick); e != api.ErrRange {
				t.Fatalf("Set(%d, %d) = %d", id, tick, e)
			}
			same(t, x, s, farIds()...)
		}
	}
	due(t, x, math.MaxInt, -3, 7, 1<<40, 0)
}

// P7.1: ids that aren't there; nothing changes.
func TestWrongIds(t *testing.T) {
	s := slow{7: 5, -3: 0, 0: last, 65535: 5}
	x := made(t, s.entries()...)
	for _, id := range append(farIds(), 6, 8, 3, -7, 5, last) {
		if _, ok := s[id]; ok {
			continue
		}
		if e := x.Drop(id); e != api.ErrNone {
			t.Errorf("Drop(%d) = %d", id, e)
		}
		same(t, x, s, farIds()...)
	}
	due(t, x, last, -3, 7, 65535, 0)
}

// P7.1: an id that was dropped isn't there, is dropped once, and can be set again.
func TestDrop(t *testing.T) {
	for k := range 7 {
		s := slow{}
		for _, id := range []int{3, -1, 0, 9, 4, 2, 8} {
			s[id] = 10 * (id%3 + 2)
		}
		x := made(t, s.entries()...)
		id := s.entries()[k].id
		drop(t, x, id)
		s.drop(id)
		same(t, x, s, id)
		if e := x.Drop(id); e != api.ErrNone {
			t.Errorf("Drop(%d) = %d", id, e)
		}
		same(t, x, s, id)
		if k%2 == 0 {
			set(t, x, id, 25)
			s.set(id, 25)
			same(t, x, s)
		}
		due(t, x, 24, s.due(24)...)
		due(t, x, 25, s.due(25)...)
		due(t, x, last, s.due(last)...)
		same(t, x, slow{}, id)
	}
}

// P7.1: an id that is set anew, earlier, later and to the same tick, is due at its new tick and never at its old one.
func TestSetAnew(t *testing.T) {
	for _, id := range []int{1, 2, 3, 4, 5} {
		for _, tick := range []int{0, 5, 10, 15, 20, 25, 30, 35, 40, 45, 50, 55, 60, last} {
			s := slow{1: 10, 2: 20, 3: 30, 4: 40, 5: 50}
			x := made(t, s.entries()...)
			set(t, x, id, tick)
			s.set(id, tick)
			same(t, x, s)
			for now := -5; now <= 65; now += 5 {
				due(t, x, now, s.due(now)...)
				same(t, x, s, 1, 2, 3, 4, 5)
			}
			due(t, x, last, s.due(last)...)
		}
	}
	x := made(t)
	for n := range 10000 {
		set(t, x, 7, n*7919%1000)
		same(t, x, slow{7: n * 7919 % 1000})
	}
	due(t, x, last, 7)
	due(t, x, last)
}

// P7.2: like ticks are told by ids, in whichever order they were set.
func TestLikeTicks(t *testing.T) {
	for n := range farIds() {
		d := draws(n + 1)
		x := made(t)
		for _, i := range d.mixedUp(len(farIds())) {
			set(t, x, farIds()[i], 9)
		}
		due(t, x, 8)
		due(t, x, 9, farIds()...)
		due(t, x, 9)
	}
}

// P7.2: of every order in which six entries are set, one of them anew, and one dropped, all comes rising.
func TestEveryOrder(t *testing.T) {
	entries := []entry{{5, 0}, {-4, 3}, {0, 3}, {1, 3}, {-9, 8}, {2, last}}
	var try func(k int)
	try = func(k int) {
		if k < len(entries) {
			for i := k; i < len(entries); i++ {
				entries[k], entries[i] = entries[i], entries[k]
				try(k + 1)
				entries[k], entries[i] = entries[i], entries[k]
			}
			return
		}
		x, s := made(t, entries...), slow{}
		for _, y := range entries {
			s.set(y.id, y.tick)
		}
		set(t, x, entries[2].id, 4)
		s.set(entries[2].id, 4)
		drop(t, x, entries[4].id)
		s.drop(entries[4].id)
		same(t, x, s, entries[4].id)
		for _, now := range []int{-1, 0, 2, 3, 4, 8, last - 1, last} {
			due(t, x, now, s.due(now)...)
			same(t, x, s, entries[0].id)
		}
	}
	try(0)
}

// P7.2: Due just below the lowest tick, at it, twice at one tick, at a lower one behind a higher, above all.
func TestDue(t *testing.T) {
	s := slow{1: 10, 2: 10, 3: 20, 4: 30, 5: last}
	x := made(t, s.entries()...)
	for _, step := range []struct {
		now int
		ids []int
	}{
		{math.MinInt, nil}, {-1, nil}, {0, nil}, {9, nil}, {10, []int{1, 2}}, {10, nil}, {9, nil}, {19, nil}, {25, []int{3}}, {20, nil}, {10, nil}, {-1, nil}, {last - 1, []int{4}}, {30, nil}, {last + 1, []int{5}}, {math.MaxInt, nil}, {0, nil},
	} {
		due(t, x, step.now, step.ids...)
		s.due(step.now)
		same(t, x, s, 1, 2, 3, 4, 5)
	}
	// Entries lower than what was asked before are due at the next Due.
	due(t, x, 100)
	set(t, x, 8, 50)
	set(t, x, 9, 0)
	same(t, x, slow{8: 50, 9: 0})
	due(t, x, 49, 9)
	due(t, x, 100, 8)
	set(t, x, 8, 50)
	due(t, x, 50, 8)
}

// P7.1, P7.2: 4096 entries, one more, one of an id that is there; room again behind a Drop and behind a Due.
func TestFull(t *testing.T) {
	x, s := made(t), slow{}
	d := draws(7)
	for _, i := range d.mixedUp(full) {
		set(t, x, i-100, i/3)
		s.set(i-100, i/3)
	}
	refused := func() {
		t.Helper()
		for _, id := range []int{full, -101, math.MinInt, math.MaxInt, 1 << 32} {
			for _, tick := range []int{0, 7, last} {
				if e := x.Set(id, tick); e != api.ErrFull {
					t.Fatalf("Set(%d, %d) = %d", id, tick, e)
				}
			}
		}
		same(t, x, s, full, -101, math.MinInt, math.MaxInt)
		// ErrRange is ahead of ErrFull, and asked of an id that is there too.
		for _, tick := range wrongTicks() {
			for _, id := range []int{full, -101, 5, 0} {
				if e := x.Set(id, tick); e != api.ErrRange {
					t.Fatalf("Set(%d, %d) = %d", id, tick, e)
				}
			}
		}
		same(t, x, s, full, -101)
	}
	refused()
	for _, y := range []entry{{0, 0}, {-100, last}, {full - 101, 2}, {5, 35}, {5, 35}, {77, 2000}} {
		set(t, x, y.id, y.tick)
		s.set(y.id, y.tick)
		same(t, x, s)
	}
	refused()
	drop(t, x, 500)
	s.drop(500)
	same(t, x, s, 500)
	set(t, x, 9999, 3)
	s.set(9999, 3)
	refused()
	gone := s.due(1)
	due(t, x, 1, gone...)
	same(t, x, s, gone...)
	for i := range gone {
		set(t, x, 20000-i, i)
		s.set(20000-i, i)
	}
	refused()
	due(t, x, last, s.due(last)...)
	same(t, x, slow{}, 0, 500, 9999)
	for i := range full {
		set(t, x, -i, 4)
		s.set(-i, 4)
	}
	if e := x.Set(1, 4); e != api.ErrFull {
		t.Error(e)
	}
	due(t, x, 4, s.due(4)...)
}

// P7.1: few ids that are set, dropped and due often don't use room up.
func TestRoom(t *testing.T) {
	x, s := made(t), slow{}
	for n := range 3 * full {
		set(t, x, n%5, n%17)
		s.set(n%5, n%17)
		switch n % 7 {
		case 3:
			drop(t, x, n%5)
			s.drop(n % 5)
		case 5:
			due(t, x, n%19, s.due(n%19)...)
		}
		same(t, x, s, 0, 1, 2, 3, 4)
	}
	for i := 5; len(s) < full; i++ {
		set(t, x, i, 1)
		s.set(i, 1)
	}
	if e := x.Set(-1, 1); e != api.ErrFull {
		t.Error(e)
	}
	due(t, x, last, s.due(last)...)
}

// P7.1, P7.2: long rows of calls are as they are plainly told.
func TestRows(t *testing.T) {
	for row := range 120 {
		d := draws(row + 1)
		ids, ticks := 1+d.below(40), 1+d.below(60)
		x, s, now := made(t), slow{}, 0
		for step := range 400 {
			id, tick := d.below(ids)-ids/2, now+d.below(ticks)-ticks/4
			var e, want api.Errno
			switch d.below(8) {
			case 0, 1, 2, 3:
				e, want = x.Set(id, tick), s.set(id, tick)
			case 4, 5:
				e, want = x.Drop(id), s.drop(id)
			case 6:
				due(t, x, tick, s.due(tick)...)
			default:
				now += d.below(9)
				due(t, x, now, s.due(now)...)
			}
			if e != want {
				t.Fatalf("row %d, step %d: id %d, tick %d: %d, want %d", row, step, id, tick, e, want)
			}
			same(t, x, s, id, id+1, -id, ids)
		}
		due(t, x, last, s.due(last)...)
		same(t, x, slow{}, 0)
	}
}

// P7.1: with many entries, those in the midst of others are dropped and set anew, and what is left comes rising.
func TestMany(t *testing.T) {
	for row := range 8 {
		d := draws(row + 100)
		x, s := made(t), slow{}
		for _, i := range d.mixedUp(700) {
			tick := d.below(200)
			set(t, x, i, tick)
			s.set(i, tick)
		}
		for range 300 {
			id := d.below(700)
			if e, want := x.Drop(id), s.drop(id); e != want {
				t.Fatalf("Drop(%d) = %d, want %d", id, e, want)
			}
			id, tick := d.below(700), d.below(200)
			set(t, x, id, tick)
			s.set(id, tick)
		}
		for now := range 200 {
			due(t, x, now, s.due(now)...)
		}
		same(t, x, slow{}, 0)
	}
}

// Rule 3: what Due tells can be written to and appended to without a change to the timer; later calls don't change it.
func TestHandedOut(t *testing.T) {
	x := made(t, entry{1, 1}, entry{2, 1}, entry{3, 2}, entry{4, 2}, entry{5, 3})
	s := slow{3: 2, 4: 2, 5: 3}
	l := x.Due(1)
	for i := range l {
		l[i] = 3
	}
	for range 20 {
		l = append(l, 4, 5)
	}
	same(t, x, s, 1, 2)
	m := x.Due(2)
	set(t, x, 9, 0)
	set(t, x, 8, 0)
	due(t, x, 3, 8, 9, 5)
	if !slices.Equal(m, []int{3, 4}) || !slices.Equal(l[:4], []int{3, 3, 4, 5}) {
		t.Error(m, l)
	}
}

// Rule 4: two timers have nothing in common, and what they tell hangs on their calls alone.
func TestTwoTimers(t *testing.T) {
	x, y := made(t, entry{1, 5}, entry{2, 6}), made(t, entry{1, 5}, entry{2, 6})
	set(t, x, 1, 9)
	drop(t, x, 2)
	set(t, x, 3, 0)
	same(t, y, slow{1: 5, 2: 6}, 3)
	due(t, x, last, 3, 1)
	same(t, y, slow{1: 5, 2: 6}, 3)
	for i := range full {
		set(t, x, i, i)
	}
	set(t, y, full, 1)
	due(t, y, 5, full, 1)
	same(t, x, numbered(full), full)

	first := made(t, entry{4, 2}, entry{-4, 2}, entry{0, 1}, entry{11, 2})
	second := made(t, entry{11, 2}, entry{0, 7}, entry{4, 2}, entry{0, 1}, entry{6, 0}, entry{-4, 2})
	drop(t, second, 6)
	if a, b := told(first), told(second); a != b {
		t.Errorf("%s, %s", a, b)
	}
}
