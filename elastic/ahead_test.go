package elastic_test

import (
	"math"
	"slices"
	"testing"

	"ensemble/api"
	"ensemble/elastic"
	"ensemble/pack"
	"ensemble/promise"
)

// beside is a head of five Gpus of queue 1, promised 7, at 2: four are free, two are held till 7, and one more till 10.
func beside() api.Look {
	return api.Look{
		Now: 2, Head: 5, Promise: 7, View: []api.Free{free(0, 0, 0b1111, 0)}, Left: []api.Units{plenty, {Gpus: 9}, plenty},
		Ends:  []api.Hold{hold(2, 10, at(0, 0, 0b1000000, 0)), hold(0, 7, at(0, 0, 0b110000, 0))},
		Waits: []api.Wait{wait(gang(4, 0, 1, 0, 1, 4)), wait(gang(5, 1, 1, 0, 5, 9)), wait(gang(6, 2, 1, 0, 1, 1))},
	}
}

// P14.2: until below now, of now, between, just the promise, one above it, just the next end, Never, and far behind: all of a gang go ahead, or one does, or none, if Min is more.
func TestUntils(t *testing.T) {
	for until, members := range map[int]int{
		math.MinInt: 4, -1 << 32: 4, -1: 4, 0: 4, 1: 4, 2: 4, 3: 4, 6: 4, 7: 4, 8: 1, 9: 1, 10: 1, 11: 1, 1000: 1, last: 1, never: 1, never + 1: 1, 1 << 32: 1, math.MaxInt: 1,
	} {
		for least := 1; least <= 4; least++ {
			n := members
			if n < least {
				n = 0
			}
			for _, q := range []int{0, 1, 2} {
				for _, id := range []int{4, 6, 8, 0, -5, 5 + 1<<32} {
					fills(t, beside(), gang(id, q, 1, 0, least, 4), until, n)
					fills(t, beside(), gang(id, q, 1, 0, least, 16), until, n)
				}
			}
		}
	}
}

// P14.2: without a head's want a gang is filled with all that Most tells, and so is the head itself, till whenever, at whatever now, and whatever is promised.
func TestWithoutHead(t *testing.T) {
	for _, now := range []int{0, 2, 50, last, -1, never, math.MinInt, math.MaxInt} {
		for _, until := range []int{math.MinInt, -1, 0, 2, 7, 8, never, math.MaxInt} {
			for _, promised := range []int{math.MinInt, -1, 0, 2, 7, never} {
				l := beside()
				l.Now, l.Promise = now, promised
				for least := 1; least <= 4; least++ {
					fills(t, l, gang(5, 1, 1, 0, least, 9), until, 4)
					fills(t, l, gang(5, 0, 1, 0, least, 4), until, 4)
				}
				grows(t, l, held(2, until), gang(5, 1, 1, 0, 1, 4))
				for _, head := range []int{0, 7, 1, -5, 5 + 1<<32, math.MinInt, math.MaxInt} {
					l.Head = head
					fills(t, l, gang(4, 0, 1, 0, 2, 4), until, 4)
					fills(t, l, gang(5, 1, 1, 0, 2, 9), until, 4)
					grows(t, l, held(2, until), gang(4, 0, 1, 0, 1, 4))
				}
				// A head of 0 is none, also where a gang of that Id waits.
				l.Head, l.Waits[1].Job.Id = 0, 0
				fills(t, l, gang(4, 0, 1, 0, 2, 4), until, 4)
				fills(t, l, gang(0, 0, 1, 0, 2, 4), until, 4)
				// Nor is one, if nobody waits.
				l.Head, l.Waits = 5, nil
				fills(t, l, gang(4, 0, 1, 0, 2, 4), until, 4)
				grows(t, l, held(2, until), gang(4, 0, 1, 0, 1, 4))
			}
		}
	}
}

// P14.2: promises below now, of now, of an end, between two, and of Never: how many may go ahead till some ticks.
func TestPromises(t *testing.T) {
	// By the head's promise, from each row's first one on, so many members.
	type row struct{ from, members int }
	members := func(rows []row, promised int) int {
		n := 0
		for _, r := range rows {
			if promised >= r.from {
				n = r.members
			}
		}
		return n
	}
	promises := []int{math.MinInt, -1 << 32, -1, 0, 1, 2, 3, 6, 7, 8, 9, 10, 11, 12, 29, 30, 31, last, never, never + 1, math.MaxInt}
	for _, x := range []struct {
		now, until int
		rows       []row
	}{
		{2, -1, []row{{7, 4}}}, {2, 2, []row{{7, 4}}}, {2, 7, []row{{7, 4}}}, {2, 8, []row{{7, 1}, {8, 4}}}, {2, 9, []row{{7, 1}, {9, 4}}}, {2, 10, []row{{7, 1}, {10, 4}}}, {2, 11, []row{{7, 1}, {10, 2}, {11, 4}}}, {2, 30, []row{{7, 1}, {10, 2}, {30, 4}}},
		{2, last, []row{{7, 1}, {10, 2}, {last, 4}}}, {2, never, []row{{7, 1}, {10, 2}, {never, 4}}}, {2, math.MaxInt, []row{{7, 1}, {10, 2}, {never, 4}}},
		// A promise that is over counts as now.
		{7, 7, []row{{math.MinInt, 4}}}, {7, 8, []row{{math.MinInt, 1}, {8, 4}}}, {8, 9, []row{{math.MinInt, 1}, {9, 4}}}, {8, 30, []row{{math.MinInt, 1}, {10, 2}, {30, 4}}}, {10, 30, []row{{math.MinInt, 2}, {30, 4}}}, {12, 30, []row{{math.MinInt, 2}, {30, 4}}}, {12, 12, []row{{math.MinInt, 4}}}, {12, 5, []row{{math.MinInt, 4}}}, {6, 30, []row{{7, 1}, {10, 2}, {30, 4}}},
	} {
		for _, promised := range promises {
			for least := 1; least <= 4; least++ {
				l := beside()
				l.Now, l.Promise = x.now, promised
				n := members(x.rows, promised)
				if n < least {
					n = 0
				}
				fills(t, l, gang(4, 0, 1, 0, least, 7), x.until, n)
				fills(t, l, gang(8, 1, 1, 0, least, 4), x.until, n)
			}
		}
	}
}

// P14.2: what the head's queue has left is less by the units of its own gangs' holds alone.
func TestUnitsOfHeadsQueue(t *testing.T) {
	for left, members := range map[int]int{4: 0, 5: 0, 6: 1, 7: 2, 8: 3, 9: 4, 10: 5, 11: 5, 99: 5} {
		l := beside()
		l.View, l.Left[1].Gpus = []api.Free{free(0, 0, 0b1111, 0), free(0, 1, gpus(20), 0)}, left
		for least := 1; least <= 4; least++ {
			own, other := members, 5
			if own < least {
				own = 0
			}
			if left < 5 {
				other = 0
			}
			fills(t, l, gang(4, 1, 1, 0, least, 5), 8, own)
			fills(t, l, gang(4, 0, 1, 0, least, 5), 8, other)
			fills(t, l, gang(4, 2, 1, 0, least, 5), math.MaxInt, other)
			// By the promise they are back.
			fills(t, l, gang(4, 1, 1, 0, least, 5), 7, min(left, other))
		}
		for q, want := range []bool{left >= 5, left > 5, left >= 5} {
			if want {
				grows(t, l, held(4, 8), gang(4, q, 1, 0, 1, 5))
			} else {
				stays(t, l, held(4, 8), gang(4, q, 1, 0, 1, 5), api.ErrBusy)
			}
		}
		// Units of the head's queue that a hold gives back by the promise count as left.
		l.Ends[1].Queue = 1
		back := min(5, max(0, left-3))
		fills(t, l, gang(4, 1, 1, 0, 1, 5), 8, min(back, left))
	}
	// Cpus are counted as Gpus are.
	l := api.Look{Now: 2, Head: 5, Promise: 2, View: []api.Free{free(0, 0, 0, 99)}, Left: []api.Units{{Cpus: 29}}, Waits: []api.Wait{wait(gang(5, 0, 0, 4, 5, 5))}}
	fills(t, l, gang(4, 0, 0, 3, 1, 5), 3, 3)
	l.Left[0].Cpus = 28
	fills(t, l, gang(4, 0, 0, 3, 1, 5), 3, 2)
	fills(t, l, gang(4, 0, 0, 3, 3, 5), 3, 0)
	fills(t, l, gang(4, 0, 0, 3, 3, 5), 2, 5)
}

// P14.2: beside a head whose queue isn't there nobody's hold is let, but the head's own.
func TestHeadOfNoQueue(t *testing.T) {
	for _, q := range queues(3) {
		if q >= 0 && q < 3 {
			continue
		}
		for _, promised := range []int{0, 2, 7, 99, never, math.MaxInt} {
			l := beside()
			l.Promise, l.Waits[1].Job.Queue = promised, q
			for _, until := range []int{-1, 2, 7, 8, never} {
				for own := range 3 {
					fills(t, l, gang(4, own, 1, 0, 1, 4), until, 0)
					stays(t, l, held(1, until), gang(4, own, 1, 0, 1, 4), api.ErrBusy)
				}
				refused(t, l, gang(4, q, 1, 0, 1, 4), api.ErrNone)
				refused(t, l, gang(5, q, 1, 0, 1, 4), api.ErrNone)
				fills(t, l, gang(5, 1, 1, 0, 1, 4), until, 4)
				grows(t, l, held(1, until), gang(5, 1, 1, 0, 1, 4))
			}
			most(t, l, gang(4, 0, 1, 0, 1, 4), 4)
			// The queue of one that waits behind it with the same Id plays no part.
			l.Waits = append(l.Waits, wait(gang(5, 1, 1, 0, 1, 1)))
			fills(t, l, gang(4, 0, 1, 0, 1, 4), 7, 0)
		}
	}
}

// P14.2: a now that may not be, or a head that may not be, lets nobody go ahead; Most asks neither.
func TestWrongBesideHead(t *testing.T) {
	check := func(l api.Look) {
		t.Helper()
		for _, until := range []int{math.MinInt, -1, 0, 2, 7, never, math.MaxInt} {
			for _, promised := range []int{-1, 7, never, math.MaxInt} {
				l.Promise = promised
				fills(t, l, gang(4, 0, 1, 0, 1, 4), until, 0)
				fills(t, l, gang(6, 1, 1, 0, 4, 4), until, 0)
				stays(t, l, held(0, until), gang(4, 0, 1, 0, 1, 4), api.ErrBusy)
				fills(t, l, gang(5, 1, 1, 0, 1, 4), until, 4)
				grows(t, l, held(0, until), gang(5, 1, 1, 0, 1, 4))
			}
		}
		most(t, l, gang(4, 0, 1, 0, 1, 4), 4)
		// Whatever else is wrong is told ahead of it.
		refused(t, l, gang(4, 3, 1, 0, 1, 4), api.ErrNone)
		refused(t, l, gang(4, 0, 1, 0, 5, 6), api.ErrFit)
		refused(t, l, gang(4, 1, 1, 1, 5, 4), api.ErrRange)
		stays(t, l, held(4, 7), gang(4, 0, 1, 0, 1, 4), api.ErrFull)
	}
	for _, now := range []int{-1, -2, -last, -1 << 32, math.MinInt, last + 1, last + 2, 1 << 32, 1<<32 + 2, math.MaxInt} {
		l := beside()
		l.Now = now
		check(l)
	}
	for _, s := range wrongShapes() {
		l := beside()
		l.Waits[1].Job.Shape = s
		check(l)
	}
}

// P14.2: at the last ticks that may be now a head is held against its promise as at others.
func TestLastNow(t *testing.T) {
	l := beside()
	l.Now, l.Promise, l.Ends[0].Until = last, last, never
	fills(t, l, gang(4, 0, 1, 0, 1, 4), last, 4)
	fills(t, l, gang(4, 0, 1, 0, 1, 4), never, 1)
	fills(t, l, gang(4, 0, 1, 0, 2, 4), never, 0)
	l.Promise = never
	fills(t, l, gang(4, 0, 1, 0, 2, 4), never, 4)
	l.Now, l.Promise, l.Ends[1].Until = 0, 0, 0
	fills(t, l, gang(4, 0, 1, 0, 1, 4), 0, 4)
	fills(t, l, gang(4, 0, 1, 0, 1, 4), 1, 1)
}

// P14.2: a hold to grow without slots, with one, with one less than Max, with Max, and with more: only how many they are plays a part, and its Until.
func TestGrowFull(t *testing.T) {
	l := beside()
	for upTo := 1; upTo <= 16; upTo++ {
		for least := 1; least <= upTo; least++ {
			j := gang(4, 0, 1, 0, least, upTo)
			for n := range 24 {
				if n >= upTo {
					stays(t, l, held(n, 7), j, api.ErrFull)
					stays(t, l, held(n, 30), j, api.ErrFull)
				} else {
					grows(t, l, held(n, 7), j)
					grows(t, l, held(n, 30), j)
				}
			}
		}
	}
	l.View = nil
	stays(t, l, held(16, 7), gang(4, 0, 1, 0, 1, 16), api.ErrFull)
	stays(t, l, held(15, 7), gang(4, 0, 1, 0, 1, 16), api.ErrFit)
	for _, slots := range [][]api.Slot{nil, {}} {
		l := beside()
		grows(t, l, api.Hold{Until: 7, Slots: slots}, gang(4, 0, 1, 0, 1, 1))
	}
}

// P14.2: a member more that is let, and one that isn't, for the head's sake: by the hold's Until, the promise, and the job's queue and Id.
func TestGrowBesideHead(t *testing.T) {
	for until, is := range map[int]bool{
		math.MinInt: true, -1: true, 0: true, 2: true, 6: true, 7: true, 8: false, 9: false, 10: false, 30: false, last: false, never: false, math.MaxInt: false,
	} {
		l := beside()
		l.View[0].Mask = 0b1011
		grow := func(l api.Look, h api.Hold, j api.Job, is bool) {
			t.Helper()
			if is {
				grows(t, l, h, j)
			} else {
				stays(t, l, h, j, api.ErrBusy)
			}
		}
		for q := range 3 {
			j := gang(4, q, 1, 0, 1, 4)
			grow(l, held(2, until), j, is)
			// The hold's own Id and queue play no part, nor that it is reserved.
			for _, x := range []api.Hold{{Id: 5, Queue: 1, Until: until}, {Id: 5, Queue: -1, Until: until}, {Queue: 1, Running: true, Until: until}} {
				grow(l, x, j, is)
			}
			// The head itself may grow in any case.
			j.Id = 5
			grow(l, held(2, until), j, true)
		}
		// With a unit more there is one for both.
		l.View[0].Mask = 0b1111
		grow(l, held(2, until), gang(4, 0, 1, 0, 1, 4), true)
		grow(l, held(2, until), gang(4, 0, 2, 0, 1, 4), is)
		// A promise that comes later lets it, and Never anyhow; one that the head hasn't lets nobody.
		l.View[0].Mask = 0b1011
		l.Promise = 10
		grow(l, held(2, until), gang(4, 0, 1, 0, 1, 4), true)
		grow(l, held(2, until), gang(4, 0, 2, 0, 1, 4), until <= 10)
		l.Promise = never
		grow(l, held(2, until), gang(4, 0, 2, 0, 1, 4), true)
		l.Promise = 6
		grow(l, held(2, until), gang(4, 0, 1, 0, 1, 4), false)
	}
}

// P14.2: the hold that grows stands among those that end, too: its units come back at its Until, with the one more.
func TestGrowOfHoldThatEnds(t *testing.T) {
	l := beside()
	for until, is := range map[int]bool{6: true, 7: true, 8: false, 9: false, 11: false} {
		l.View[0].Mask = 0b1
		mine := hold(0, until, at(0, 0, 0b10, 0), at(0, 0, 0b100, 0))
		l.Ends = []api.Hold{mine, hold(2, 10, at(0, 0, 0b1000000, 0)), hold(0, 7, at(0, 0, 0b110000, 0))}
		l.Promise = 7
		if is {
			grows(t, l, mine, gang(4, 0, 1, 0, 1, 4))
		} else {
			stays(t, l, mine, gang(4, 0, 1, 0, 1, 4), api.ErrBusy)
		}
		l.Promise = max(7, until)
		grows(t, l, mine, gang(4, 0, 1, 0, 1, 4))
	}
}

// P14.2: the slots are those of the first members that Most places: a gang that spreads goes ahead as far as it leaves the head its spot.
func TestPlaces(t *testing.T) {
	// Four fit into the spot 0 1, two into 1 0 and one into 0 0; the head needs two of one spot.
	l := api.Look{Now: 2, Head: 5, Promise: 2, View: []api.Free{free(0, 0, 0b1, 9), free(0, 1, 0b110011, 9), free(1, 0, 0b1100, 9)}, Left: []api.Units{plenty}, Waits: []api.Wait{wait(gang(5, 0, 2, 0, 1, 1))}}
	all := []api.Slot{at(0, 1, 0b1, 1), at(0, 1, 0b10, 1), at(0, 1, 0b10000, 1), at(0, 1, 0b100000, 1), at(1, 0, 0b100, 1), at(1, 0, 0b1000, 1), at(0, 0, 0b1, 1)}
	for least := 1; least <= 7; least++ {
		if slots, e := elastic.Most(l, gang(4, 0, 1, 1, least, 9)); e != api.OK || !slices.Equal(slots, all) {
			t.Error(least, slots, e)
		}
		slots, e := elastic.Fill(l, gang(4, 0, 1, 1, least, 9), 9)
		if least <= 4 && (e != api.OK || !slices.Equal(slots, all[:4])) || least > 4 && (e != api.ErrBusy || len(slots) != 0) {
			t.Error(least, slots, e)
		}
		slots, e = elastic.Fill(l, gang(4, 0, 1, 1, least, 9), 2)
		if e != api.OK || !slices.Equal(slots, all) {
			t.Error(least, slots, e)
		}
	}
	if s, e := elastic.Grow(l, held(3, 9), gang(4, 0, 1, 1, 1, 4)); s != all[0] || e != api.OK {
		t.Error(s, e)
	}
	// The roomiest spot is the only one that the head fits into: a member more isn't placed in another one instead.
	l.View[2].Mask, l.View[1].Mask = 0b100, 0b11
	stays(t, l, held(3, 9), gang(4, 0, 1, 1, 1, 4), api.ErrBusy)
	fills(t, l, gang(4, 0, 1, 1, 1, 4), 9, 0)
}

// orders goes through every order of the holds.
func orders(ends []api.Hold, each func([]api.Hold)) {
	var put func(int)
	row := slices.Clone(ends)
	put = func(k int) {
		if k == len(row) {
			each(slices.Clone(row))
			return
		}
		for n := k; n < len(row); n++ {
			row[k], row[n] = row[n], row[k]
			put(k + 1)
			row[k], row[n] = row[n], row[k]
		}
	}
	put(0)
}

// P14.2: in whatever order the holds come that end.
func TestOrders(t *testing.T) {
	l := beside()
	ends := append(l.Ends, hold(1, 4, at(0, 0, 0b10000000, 0)), hold(1, 20, at(0, 0, 0b100000000, 0)), hold(0, never, at(0, 0, 0b1000000000, 0)))
	orders(ends, func(row []api.Hold) {
		l.Ends = row
		for _, x := range []struct{ until, promised, members int }{
			{3, 4, 4}, {4, 4, 4}, {5, 4, 0}, {7, 7, 4}, {8, 7, 2}, {8, 8, 4}, {30, 9, 2}, {30, 10, 3}, {30, 19, 3}, {30, 20, 4}, {never, last, 4}, {never, 3, 0},
		} {
			l.Promise = x.promised
			fills(t, l, gang(4, 0, 1, 0, 1, 4), x.until, x.members)
		}
	})
}

// P14.1, P14.2: drawn looks, gangs and holds, asked member by member and tick by tick.
func TestAll(t *testing.T) {
	d := draws(0x9e3779b97f4a7c15)
	most, fill, grow := map[api.Errno]int{}, map[api.Errno]int{}, map[api.Errno]int{}
	var all, some, least, own int
	for range 100000 {
		l, j, until := d.look(), d.job(), d.until()
		if l.Promise < 99 && d.below(2) == 0 {
			until = max(l.Now, l.Promise) + d.below(6)
		}
		m, e := plainMost(l, j)
		slots, f := elastic.Most(l, j)
		placing(t, "Most", l, j, slots, f, m, e)
		most[e]++

		n, e := plainFill(l, j, until)
		slots, f = elastic.Fill(l, j, until)
		placing(t, "Fill", l, j, slots, f, n, e)
		fill[e]++
		switch {
		case e != api.OK || m == j.Shape.Min:
		case n == m:
			all++
		case n == j.Shape.Min:
			least++
		default:
			some++
		}

		h := held(d.below(9), until)
		if len(l.Ends) > 0 && d.below(2) == 0 {
			h = l.Ends[d.below(len(l.Ends))]
		}
		if e = plainGrow(l, h, j); e == api.OK {
			grows(t, l, h, j)
		} else {
			stays(t, l, h, j, e)
		}
		grow[e]++
		if _, is := elastic.Head(l); is && j.Id == l.Head {
			own++
		}
		if t.Failed() {
			return
		}
	}
	for _, e := range []api.Errno{api.OK, api.ErrRange, api.ErrNone, api.ErrFit, api.ErrQuota, api.ErrBusy, api.ErrFull} {
		if most[e] < 200 && e != api.ErrBusy && e != api.ErrFull || fill[e] < 200 && e != api.ErrFull || grow[e] < 200 {
			t.Error(e, most[e], fill[e], grow[e])
		}
	}
	if all < 200 || some < 50 || least < 200 || own < 200 {
		t.Error(all, some, least, own)
	}
}

// kept tells whether the head has its promise: whether it is promised no later tick than that, or than now.
func kept(l api.Look) bool {
	w, _ := elastic.Head(l)
	tick, e := promise.Earliest(l.Now, l.View, l.Left[w.Queue], l.Ends, w)
	return e == api.OK && tick <= max(l.Promise, l.Now)
}

// with is the look once a hold of the slots is there, besides or as more of the one at k.
func with(t *testing.T, l api.Look, h api.Hold) api.Look {
	t.Helper()
	view, e := pack.Less(l.View, h.Slots)
	if e != api.OK {
		t.Fatal(l, h, e)
	}
	u := plainUnits(h.Slots)
	l.View, l.Left, l.Ends = view, slices.Clone(l.Left), append(slices.Clone(l.Ends), h)
	l.Left[h.Queue].Gpus -= u.Gpus
	l.Left[h.Queue].Cpus -= u.Cpus
	return l
}

// P14.3: what is filled or grown leaves the head its promise, if it had it; and if it hadn't it, nobody is.
func TestPromiseIsKept(t *testing.T) {
	d := draws(0x2545f4914f6cdd1d)
	filled, grown, had := 0, 0, 0
	for range 30000 {
		l, j, until := d.look(), d.job(), d.until()
		w, is := elastic.Head(l)
		if !is || j.Id == l.Head || w.Queue < 0 || w.Queue >= len(l.Left) {
			continue
		}
		has := kept(l)
		if has {
			had++
		}
		slots, e := elastic.Fill(l, j, until)
		if e == api.OK {
			filled++
			if !has || !kept(with(t, l, api.Hold{Id: j.Id, Queue: j.Queue, Until: until, Slots: slots})) {
				t.Fatal(l, j, until, slots)
			}
		}
		s, e := elastic.Grow(l, held(0, until), j)
		if e == api.OK {
			grown++
			if !has || !kept(with(t, l, api.Hold{Id: j.Id, Queue: j.Queue, Until: until, Slots: []api.Slot{s}})) {
				t.Fatal(l, j, until, s)
			}
		}
	}
	if filled < 1000 || grown < 1000 || had < 2000 {
		t.Error(filled, grown, had)
	}
}

// P14.3: row by row, gang behind gang is filled and grown, tick by tick, till nobody goes ahead any more: the head has its promise at each step.
func TestPromiseIsKeptInRows(t *testing.T) {
	d := draws(0x853c49e6748fea9b)
	steps := 0
	for range 6000 {
		l := d.look()
		w, is := elastic.Head(l)
		if !is || w.Queue < 0 || w.Queue >= len(l.Left) {
			continue
		}
		tick, e := promise.Earliest(l.Now, l.View, l.Left[w.Queue], l.Ends, w)
		if e != api.OK {
			continue
		}
		l.Promise = tick
		for n := range 12 {
			j, until := d.job(), l.Now+d.below(12)
			j.Id = 100 + n
			slots, e := elastic.Fill(l, j, until)
			if e != api.OK {
				continue
			}
			steps++
			mine := api.Hold{Id: j.Id, Queue: j.Queue, Until: until, Slots: slots}
			l = with(t, l, mine)
			if s, e := elastic.Grow(l, mine, j); e == api.OK {
				steps++
				l = with(t, l, api.Hold{Id: j.Id, Queue: j.Queue, Until: until, Slots: []api.Slot{s}})
			}
			if !kept(l) {
				t.Fatal(l, j)
			}
		}
	}
	if steps < 1000 {
		t.Error(steps)
	}
}

// Rule 3: answers are new memory: writing to them changes no other answer.
func TestAnswersAreNew(t *testing.T) {
	l := beside()
	j := gang(4, 0, 1, 0, 1, 4)
	a, _ := elastic.Most(l, j)
	b, _ := elastic.Fill(l, j, 7)
	for k := range a {
		a[k] = at(9, 9, 9, 9)
	}
	_ = append(a[:1], at(9, 9, 9, 9))
	most(t, l, j, 4)
	placing(t, "Fill", l, j, b, api.OK, 4, api.OK)
	for k := range b {
		b[k] = at(9, 9, 9, 9)
	}
	fills(t, l, j, 7, 4)
}

// spare has the look's lists with spare room that is written to, and answers one that tells whether they are as they were, the room too.
func spare(l *api.Look, h *api.Hold) func() bool {
	odd := hold(3, 3, at(8, 8, 5, 5))
	l.View = append(slices.Clone(l.View), free(8, 8, 5, 5))[:len(l.View)]
	l.Left = append(slices.Clone(l.Left), api.Units{Gpus: 5, Cpus: 5})[:len(l.Left)]
	l.Ends = append(slices.Clone(l.Ends), odd)[:len(l.Ends)]
	for k := range l.Ends {
		l.Ends[k].Slots = append(slices.Clone(l.Ends[k].Slots), odd.Slots[0])[:len(l.Ends[k].Slots)]
	}
	l.Waits = append(slices.Clone(l.Waits), wait(gang(8, 8, 8, 8, 8, 8)))[:len(l.Waits)]
	h.Slots = append(slices.Clone(h.Slots), odd.Slots[0])[:len(h.Slots)]
	copied := func() (api.Look, []api.Slot) {
		c := *l
		c.View, c.Left, c.Waits = slices.Clone(l.View[:len(l.View)+1]), slices.Clone(l.Left[:len(l.Left)+1]), slices.Clone(l.Waits[:len(l.Waits)+1])
		c.Ends = nil
		for _, x := range l.Ends {
			x.Slots = slices.Clone(x.Slots[:len(x.Slots)+1])
			c.Ends = append(c.Ends, x)
		}
		c.Ends = append(c.Ends, l.Ends[:len(l.Ends)+1][len(l.Ends)])
		return c, slices.Clone(h.Slots[:len(h.Slots)+1])
	}
	was, slots := copied()
	return func() bool {
		is, now := copied()
		same := func(a, b api.Hold) bool {
			return a.Id == b.Id && a.Queue == b.Queue && a.Until == b.Until && a.Running == b.Running && slices.Equal(a.Slots, b.Slots)
		}
		return slices.Equal(is.View, was.View) && slices.Equal(is.Left, was.Left) && slices.Equal(is.Waits, was.Waits) && slices.EqualFunc(is.Ends, was.Ends, same) && slices.Equal(now, slots)
	}
}

// Rule 3: what is handed in stays as it is, its spare room too, in calls that are right and in those that are refused.
func TestArgumentsAreLeft(t *testing.T) {
	d := draws(0x6a09e667f3bcc909)
	errors := map[api.Errno]int{}
	for range 6000 {
		l, j, h := d.look(), d.job(), held(d.below(6), d.until())
		same := spare(&l, &h)
		elastic.Head(l)
		_, e := elastic.Most(l, j)
		_, f := elastic.Fill(l, j, d.until())
		_, g := elastic.Grow(l, h, j)
		errors[e]++
		errors[f]++
		errors[g]++
		if !same() {
			t.Fatal(l, j, h)
		}
	}
	for _, e := range []api.Errno{api.OK, api.ErrRange, api.ErrNone, api.ErrFit, api.ErrQuota, api.ErrBusy, api.ErrFull} {
		if errors[e] == 0 {
			t.Error(e)
		}
	}
}

// Rule 4: the same is answered again, whatever was asked between.
func TestAgain(t *testing.T) {
	d := draws(0x6c62272e07bb0142)
	for range 2000 {
		l, j, until := d.look(), d.job(), d.until()
		a, e := elastic.Fill(l, j, until)
		s, f := elastic.Grow(l, held(1, until), j)
		elastic.Fill(d.look(), d.job(), d.until())
		elastic.Grow(d.look(), held(1, until), d.job())
		b, g := elastic.Fill(l, j, until)
		r, h := elastic.Grow(l, held(1, until), j)
		if !slices.Equal(a, b) || e != g || s != r || f != h {
			t.Fatal(l, j, until)
		}
	}
}

// P14.2: as many gangs that wait, and holds that end, as there may be, at ticks of their own.
func TestMany(t *testing.T) {
	const n = 4096
	l := api.Look{Now: 1, Head: 4, View: []api.Free{free(20, 0, gpus(16), 16)}, Left: []api.Units{plenty, plenty}}
	for k := range 64 {
		l.View = append(l.View, free(k/4, k%4, 0, 0))
	}
	for k := range n {
		x := k * 1237 % n
		// Whichever ends at the tick x has a unit of the spot x/64: so room grows tick by tick.
		l.Ends = append(l.Ends, hold(x%2, x, at(x/64/4, x/64%4, 1<<(x%64), 1)))
		l.Waits = append(l.Waits, wait(gang(n+3-k, 0, 1, 0, 16, 16)))
	}
	for _, x := range []struct{ promised, until, members int }{{0, 5, 2}, {7, 7, 16}, {7, 8, 8}, {7, 99, 8}, {14, 99, 15}, {15, 99, 16}, {never, never, 16}, {8, never, 9}, {3, never, 4}} {
		l.Promise = x.promised
		fills(t, l, gang(7, 1, 1, 0, 1, 16), x.until, x.members)
	}
}
