package fill_test

import (
	"math"
	"slices"
	"testing"

	"ensemble/api"
	"ensemble/fill"
	"ensemble/pack"
	"ensemble/promise"
)

// says holds Safe's answer without an error to be this.
func says(t *testing.T, a ask, promised int, want bool) {
	t.Helper()
	if is, e := a.safe(promised); is != want || e != api.OK {
		t.Errorf("Safe(%v), promised %d = %v, %d, want %v", a, promised, is, e, want)
	}
}

// The chapter's example: of 4 Gpus 2 are held till 7, and a head of 3 is promised 7.
func TestExample(t *testing.T) {
	a := ask{now: 2, view: []api.Free{free(0, 0, 0b0011, 0)}, left: plenty, ends: []api.Hold{till(7, at(0, 0, 0b1100, 0))}, w: want(3, 1, 0)}
	for _, x := range []struct {
		h     api.Hold
		after int
		safe  bool
	}{
		{till(9, at(0, 0, 0b01, 0)), 7, true},
		{till(9, at(0, 0, 0b10, 0)), 7, true},
		{till(9, at(0, 0, 0b11, 0)), 9, false},
		{till(7, at(0, 0, 0b11, 0)), 7, true},
		{till(8, at(0, 0, 0b11, 0)), 8, false},
	} {
		a.h = x.h
		comes(t, a, x.after)
		says(t, a, 7, x.safe)
	}
}

// P13.1: nothing is free and nothing is held: nothing fits, and no slot can be taken.
func TestNoSpots(t *testing.T) {
	for _, view := range [][]api.Free{nil, {}} {
		for _, ends := range [][]api.Hold{nil, {}, {till(9)}, {till(3), of(1, 12), till(never)}} {
			for _, now := range []int{0, 3, 9, last} {
				a := ask{now: now, view: view, left: plenty, ends: ends, w: want(1, 0, 1), h: till(5)}
				comes(t, a, never)
				says(t, a, last, false)
				says(t, a, never, true)
				a.h = till(5, at(0, 0, 0, 0))
				refused(t, a, api.ErrNone)
			}
		}
	}
}

// untils are ends at, ahead of and behind ticks that others have to do with.
func untils(ticks ...int) []int {
	l := []int{math.MinInt, -1 << 32, -last, -2, -1, 0, 1, last - 1, last, never, never + 1, 1 << 31, 1 << 32, 1<<32 + 6, math.MaxInt}
	for _, tick := range ticks {
		l = append(l, tick-1, tick, tick+1)
	}
	return l
}

// P13.1: a head that lacks just what the hold takes fits again when that ends, whenever that is: at once, if it is by now, and never, if it is at Never or behind it.
func TestUntils(t *testing.T) {
	for _, now := range []int{0, 1, 5, 6, 7, 1000, last - 1, last} {
		for _, until := range untils(now, 6) {
			tick := max(now, until)
			if until > last {
				tick = never
			}
			for _, h := range []api.Hold{till(until, at(0, 0, 0b110, 3)), of(1, until, at(0, 0, 0b110, 3)), till(until, at(0, 0, 0, 5)), till(until, at(0, 0, 0b1, 0))} {
				a := ask{now: now, view: []api.Free{free(0, 0, 0b111, 5)}, left: plenty, w: want(3, 1, 1), h: h}
				comes(t, a, tick)
				a.w.Members = 4
				comes(t, a, never)
			}
			// A head of one member has the unit that is left.
			a := ask{now: now, view: []api.Free{free(0, 0, 0b111, 5)}, left: plenty, w: want(1, 1, 1), h: till(until, at(0, 0, 0b110, 3))}
			comes(t, a, now)
			// That it is the units left that are lacking makes no difference.
			a = ask{now: now, view: []api.Free{free(0, 0, 0xff, 99)}, left: api.Units{Gpus: 3, Cpus: 3}, w: want(3, 1, 1), h: till(until, at(0, 0, 0b1, 1))}
			comes(t, a, tick)
			a.h.Queue = 1
			comes(t, a, now)
		}
	}
}

// P13.1: promises below now, of now, of an end, between two of them, and of Never, held against each end of a hold.
func TestPromises(t *testing.T) {
	a := ask{now: 4, view: []api.Free{free(0, 0, 0b11, 0)}, left: plenty, ends: []api.Hold{till(10, at(0, 0, 0b1000, 0)), till(7, at(0, 0, 0b100, 0))}, w: want(3, 1, 0)}
	for until, after := range map[int]int{
		math.MinInt: 7, -5: 7, -1: 7, 0: 7, 3: 7, 4: 7, 5: 7, 6: 7, 7: 7, 8: 8, 9: 9, 10: 10, 11: 10, 1000: 10, last: 10, never: 10, never + 1: 10, math.MaxInt: 10,
	} {
		a.h = till(until, at(0, 0, 0b10, 0))
		comes(t, a, after)
		for promised, most := range map[int]int{
			math.MinInt: 3, -9: 3, -1: 3, 0: 3, 2: 3, 3: 3, 4: 3, 5: 3, 6: 3, 7: 7, 8: 8, 9: 9, 10: 10, 11: 10, 99: 10, last: 10, never: 10, never + 1: 10, math.MaxInt: 10,
		} {
			says(t, a, promised, after <= most)
		}
	}
	// By now a promise that is over counts as now.
	a.now = 8
	for until, after := range map[int]int{-1: 8, 7: 8, 8: 8, 9: 9, 10: 10, never: 10} {
		a.h = till(until, at(0, 0, 0b10, 0))
		comes(t, a, after)
		for _, promised := range []int{math.MinInt, -1, 0, 6, 7, 8} {
			says(t, a, promised, until <= 8)
		}
		says(t, a, 9, until <= 9)
		says(t, a, 10, true)
	}
}

// P13.1: a hold without slots, with one, and with several, in one spot and in many, twice of one spot.
func TestSlotsOfHold(t *testing.T) {
	view := []api.Free{free(3, 2, 0b1011, 6), free(0, 0, 0b110, 5), free(1, 1, 1<<63, 1<<20)}
	ends := []api.Hold{of(2, 9, at(0, 0, 0b1, 0), at(3, 2, 0b100, 0))}
	for _, x := range []struct {
		slots   []api.Slot
		members [3]int // how many of a Gpu, of a Gpu and two Cpus, and of two Gpus fit at once
		later   [3]int // and at 9
	}{
		{nil, [3]int{6, 6, 2}, [3]int{8, 6, 3}},
		{[]api.Slot{}, [3]int{6, 6, 2}, [3]int{8, 6, 3}},
		{[]api.Slot{at(0, 0, 0, 0)}, [3]int{6, 6, 2}, [3]int{8, 6, 3}},
		{[]api.Slot{at(0, 0, 0b10, 0)}, [3]int{5, 5, 1}, [3]int{7, 6, 3}},
		{[]api.Slot{at(3, 2, 0b1000, 3)}, [3]int{5, 4, 2}, [3]int{7, 4, 2}},
		{[]api.Slot{at(0, 0, 0b10, 1), at(0, 0, 0b100, 1)}, [3]int{4, 4, 1}, [3]int{6, 5, 2}},
		{[]api.Slot{at(0, 0, 0b10, 4), at(0, 0, 0b100, 1), at(0, 0, 0, 0)}, [3]int{4, 4, 1}, [3]int{6, 4, 2}},
		{[]api.Slot{at(0, 0, 0b10, 1), at(3, 2, 0b1, 2), at(0, 0, 0b100, 2), at(1, 1, 1<<63, 1<<20)}, [3]int{2, 2, 1}, [3]int{4, 3, 1}},
		{[]api.Slot{at(1, 1, 0, 1<<20-2), at(3, 2, 0, 5)}, [3]int{6, 3, 2}, [3]int{8, 3, 3}},
		{[]api.Slot{at(0, 0, 0b110, 5), at(3, 2, 0b1011, 6), at(1, 1, 1<<63, 1<<20)}, [3]int{0, 0, 0}, [3]int{2, 0, 0}},
	} {
		for k, w := range []api.Want{want(1, 1, 0), want(1, 1, 2), want(1, 2, 0)} {
			for n := 1; n <= 16; n++ {
				w.Members = n
				tick := never
				switch {
				case n <= x.members[k]:
					tick = 5
				case n <= x.later[k]:
					tick = 9
				}
				for _, queue := range []int{0, 1} {
					comes(t, ask{now: 5, view: view, left: plenty, ends: ends, w: w, h: of(queue, never, x.slots...)}, tick)
				}
			}
		}
	}
}

// P13.1: a hold that takes just all that the head leaves, and one unit more, of Gpus, of Cpus, and of both.
func TestJustAll(t *testing.T) {
	view := []api.Free{free(0, 0, 0b11111, 20), free(0, 1, 0b1, 3)}
	for _, x := range []struct {
		slots []api.Slot
		safe  bool
	}{
		{[]api.Slot{at(0, 0, 0b11, 0)}, true},
		{[]api.Slot{at(0, 0, 0b10011, 0)}, false},
		{[]api.Slot{at(0, 0, 0, 8)}, true},
		{[]api.Slot{at(0, 0, 0, 9)}, false},
		{[]api.Slot{at(0, 0, 0b10001, 8)}, true},
		{[]api.Slot{at(0, 0, 0b10001, 9)}, false},
		{[]api.Slot{at(0, 0, 0b10101, 8)}, false},
		{[]api.Slot{at(0, 0, 0b10000, 5), at(0, 1, 0b1, 3), at(0, 0, 0b1000, 3)}, true},
		{[]api.Slot{at(0, 0, 0b10000, 5), at(0, 1, 0b1, 3), at(0, 0, 0b1000, 4)}, false},
		{[]api.Slot{at(0, 0, 0b10000, 5), at(0, 1, 0b1, 3), at(0, 0, 0b1100, 3)}, false},
	} {
		tick := never
		if x.safe {
			tick = 3
		}
		for _, queue := range []int{0, 1} {
			a := ask{now: 3, view: view, left: plenty, w: want(3, 1, 4), h: of(queue, never, x.slots...)}
			comes(t, a, tick)
			for _, promised := range []int{-1, 0, 2, 3, 4, last} {
				says(t, a, promised, x.safe)
			}
			a.h.Until = 9
			comes(t, a, min(tick, 9))
			says(t, a, 8, x.safe)
			says(t, a, 9, true)
		}
	}
	// Together there would be enough, but a member has all of one spot.
	comes(t, ask{now: 3, view: view, left: plenty, w: want(3, 1, 4), h: till(30, at(0, 0, 0b111, 2))}, 30)
	comes(t, ask{now: 3, view: view, left: plenty, w: want(3, 1, 3), h: till(30, at(0, 0, 0b111, 2))}, 3)
}

// P13.1: units left just as many as the head and the hold need together, one less of each kind; none, and so few and so many as there may be.
func TestUnitsLeft(t *testing.T) {
	a := ask{now: 3, view: []api.Free{free(0, 0, 0xff, 40)}, w: want(3, 1, 4), h: till(9, at(0, 0, 0b1, 5), at(0, 0, 0b10, 2))}
	for _, x := range []struct {
		gpus, cpus    int
		mine, another int // the tick beside a hold of the head's queue, and of another one
	}{
		{5, 19, 3, 3}, {4, 19, 9, 3}, {5, 18, 9, 3}, {4, 18, 9, 3}, {6, 20, 3, 3},
		{3, 12, 9, 3}, {2, 12, never, never}, {3, 11, never, never}, {2, 99, never, never}, {99, 11, never, never},
		{3, most, 9, 3}, {most, 12, 9, 3}, {5, most, 3, 3}, {most, 19, 3, 3}, {most, 18, 9, 3}, {4, most, 9, 3},
		{0, 0, never, never}, {most, most, 3, 3}, {-most, -most, never, never}, {-most, most, never, never}, {most, -most, never, never}, {0, most, never, never}, {most, 0, never, never}, {-1, -1, never, never},
	} {
		a.left = api.Units{Gpus: x.gpus, Cpus: x.cpus}
		a.h.Queue = 0
		comes(t, a, x.mine)
		says(t, a, 8, x.mine == 3)
		says(t, a, 9, x.mine <= 9)
		says(t, a, never, true)
		for _, queue := range []int{1, 7, 8, -1, 1 << 32, math.MinInt, math.MaxInt} {
			a.h.Queue = queue
			comes(t, a, x.another)
		}
	}
	// Of a kind that nobody needs, what is left still isn't below 0.
	a.left, a.w, a.h.Queue = api.Units{Gpus: 5, Cpus: 7}, want(3, 1, 0), 0
	comes(t, a, 3)
	a.left.Cpus = 6
	comes(t, a, 9)
	a.left.Cpus = -1
	comes(t, a, never)

	// As many units as a spot has at most: all of them are counted.
	a = ask{now: 3, view: []api.Free{free(0, 0, every, 1<<20), free(0, 1, 0b11, 2)}, left: api.Units{Gpus: 66, Cpus: 1<<20 + 2}, w: want(2, 1, 1), h: till(9, at(0, 0, every, 1<<20))}
	comes(t, a, 3)
	for _, less := range []api.Units{{Gpus: 1}, {Cpus: 1}, {Gpus: 64, Cpus: 1 << 20}} {
		b := a
		b.left.Gpus, b.left.Cpus = a.left.Gpus-less.Gpus, a.left.Cpus-less.Cpus
		comes(t, b, 9)
	}
}

// P13.1: the head's queue may be any number; units come back to it from its own holds alone, the one that is asked for among them.
func TestQueues(t *testing.T) {
	view := []api.Free{free(0, 0, 0b111111, 60)}
	for _, q := range []int{0, 1, 7, 8, -1, 65536, 1 << 32, math.MinInt, math.MaxInt} {
		for _, o := range []int{2, -2, 3 + 1<<32, math.MinInt + 1, math.MaxInt - 1} {
			w := want(2, 2, 3)
			w.Queue = q
			ends := []api.Hold{of(q, 8, at(0, 0, 1<<10, 1)), of(o, 5, at(0, 0, 1<<11, 1)), of(q, 12, at(0, 0, 1<<12, 1)), of(o, 14, at(0, 0, 1<<13, 1)), of(q, 16, at(0, 0, 1<<14, 2))}
			mine, other := of(q, 10, at(0, 0, 0b1, 2)), of(o, 10, at(0, 0, 0b1, 2))
			for _, x := range []struct{ gpus, cpus, mine, other int }{
				{5, 8, 0, 0}, {4, 8, 8, 0}, {5, 7, 8, 0}, {4, 6, 10, 0}, {3, 6, 10, 8}, {2, 6, 12, 12}, {4, 5, 10, 8}, {3, 5, 10, 8}, {4, 4, 12, 12}, {1, 6, 16, 16}, {4, 2, 16, 16}, {1, 2, 16, 16}, {0, 6, never, never}, {4, 1, never, never},
			} {
				a := ask{view: view, left: api.Units{Gpus: x.gpus, Cpus: x.cpus}, ends: ends, w: w, h: mine}
				comes(t, a, x.mine)
				a.h = other
				comes(t, a, x.other)
				// Without the holds that are there nothing comes back but the hold's own.
				a.ends = nil
				alone := never
				if x.gpus >= 4 && x.cpus >= 6 {
					alone = 0
				}
				comes(t, a, alone)
				a.h = mine
				if alone == 0 && (x.gpus < 5 || x.cpus < 8) {
					alone = 10
				}
				comes(t, a, alone)
			}
		}
	}
}

// orders goes through every order of the holds.
func orders(ends []api.Hold, each func([]api.Hold)) {
	var put func(int)
	row := slices.Clone(ends)
	put = func(k int) {
		if k == len(row) {
			each(slices.Clone(row))
			return
		}
		for n := k; n < len(row); n++ {
			row[k], row[n] = row[n], row[k]
			put(k + 1)
			row[k], row[n] = row[n], row[k]
		}
	}
	put(0)
}

// rising has more room for a head's members at each of its ends below Never; the hold takes two of three free Gpus.
func rising() ask {
	return ask{
		now:  2,
		view: []api.Free{free(2, 0, 0b11, 20), free(0, 1, 0b10000, 20)},
		left: plenty,
		ends: []api.Hold{
			till(9, at(2, 0, 0b100, 0)),
			till(6, at(0, 1, 0b1, 0)),
			till(9, at(0, 1, 0b1100, 0)),
			till(20, at(0, 1, 0b10, 0)),
			till(never, at(0, 1, 0b100000, 0)),
		},
		w: want(1, 1, 0),
		h: till(9, at(0, 1, 0b10000, 0), at(2, 0, 0b10, 3)),
	}
}

// P13.1: a head fits now, at the first end, at one between, only behind the last one, or never; in whatever order the holds come, which end ahead of the hold, at its tick, and behind it.
func TestOrders(t *testing.T) {
	// The tick at which so many Gpus are there, beside a hold of two of them till each end.
	rows := map[int][]int{
		2:     {2, 2, 2, 6, 9, 9, 9, 20, never},
		6:     {2, 6, 6, 6, 9, 9, 9, 20, never},
		8:     {2, 6, 8, 8, 9, 9, 9, 20, never},
		9:     {2, 6, 9, 9, 9, 9, 9, 20, never},
		10:    {2, 6, 9, 9, 9, 10, 10, 20, never},
		20:    {2, 6, 9, 9, 9, 20, 20, 20, never},
		30:    {2, 6, 9, 9, 9, 20, 30, 30, never},
		never: {2, 6, 9, 9, 9, 20, never, never, never},
	}
	n := 0
	orders(rising().ends, func(row []api.Hold) {
		n++
		for until, ticks := range rows {
			for k, tick := range ticks {
				a := rising()
				a.ends, a.w.Members, a.h.Until = row, k+1, until
				comes(t, a, tick)
				a.now = 7
				comes(t, a, max(7, tick))
			}
		}
	})
	if n != 120 {
		t.Error(n)
	}
}

// P13.1: no hold is there, one, and more of them.
func TestHowManyHolds(t *testing.T) {
	for n, ticks := range [][]int{
		{2, 9, 9, never},
		{2, 9, 9, 9, never},
		{2, 6, 9, 9, 9, never},
		{2, 6, 9, 9, 9, 9, 9, never},
		{2, 6, 9, 9, 9, 9, 9, 20, never},
		{2, 6, 9, 9, 9, 9, 9, 20, never},
	} {
		for k, tick := range ticks {
			a := rising()
			a.ends, a.w.Members = a.ends[:n], k+1
			comes(t, a, tick)
		}
	}
}

// P13.1: ticks that may be now, and those that may not.
func TestNows(t *testing.T) {
	a := ask{view: []api.Free{free(0, 0, 3, 3)}, left: plenty, ends: []api.Hold{till(9, at(0, 0, 4, 1))}, h: till(11, at(0, 0, 1, 1))}
	for _, now := range []int{0, 1, 2, 63, 65535, 65536, last - 1, last} {
		a.now = now
		for n, tick := range map[int]int{1: now, 2: max(now, 9), 3: max(now, 11), 4: never} {
			a.w = want(n, 1, 1)
			comes(t, a, tick)
		}
	}
	for _, now := range []int{-1, -2, -last, -1 << 32, math.MinInt, math.MinInt + 1, last + 1, last + 2, 1 << 31, 1 << 32, 1<<32 + 1, math.MaxInt - 1, math.MaxInt} {
		a.now = now
		for n := range 5 {
			a.w = want(n, 1, 1)
			refused(t, a, api.ErrRange)
			b := a
			b.left, b.ends, b.h = api.Units{}, nil, api.Hold{}
			refused(t, b, api.ErrRange)
		}
	}
}

// wrong is a slot with the error that it leads to.
type wrong struct {
	s api.Slot
	e api.Errno
}

// sound is a view, and holds and a hold that may be; the head fits at once.
func sound() ask {
	return ask{
		view: []api.Free{free(0, 0, 0b111, 8), free(0, 1, 0b110, 8)},
		left: plenty,
		ends: []api.Hold{till(5, at(0, 0, 0b1000, 1)), of(1, 3, at(0, 1, 0b1000, 1), at(0, 0, 0b10000, 1)), till(never, at(0, 0, 0b100000, 1)), till(-4, at(0, 1, 0b10000, 1))},
		w:    want(1, 1, 1),
		h:    till(6, at(0, 0, 0b10, 2), at(0, 1, 0b100, 2), at(0, 0, 0, 2)),
	}
}

// notThere are slots that Less refuses of what sound's view is beside its hold, in each of its ways.
func notThere() []wrong {
	return []wrong{
		{at(0, 0, 0, -1), api.ErrRange}, {at(0, 1, 1, -1), api.ErrRange}, {at(9, 9, 1, -1), api.ErrRange}, {at(0, 0, every, math.MinInt), api.ErrRange}, {at(0, 1, 0, -1<<32), api.ErrRange},
		{at(0, 2, 0, 0), api.ErrNone}, {at(1, 0, 1, 1), api.ErrNone}, {at(-1, 0, 0, 0), api.ErrNone}, {at(0, -1, 0, 0), api.ErrNone}, {at(1<<32, 0, 0, 0), api.ErrNone}, {at(math.MinInt, math.MaxInt, every, math.MaxInt), api.ErrNone},
		{at(0, 0, 0b1000, 0), api.ErrBusy}, {at(0, 1, 0b1, 0), api.ErrBusy}, {at(0, 1, 0b1000, 1), api.ErrBusy}, {at(0, 0, every, 0), api.ErrBusy}, {at(0, 1, 1<<63, 9), api.ErrBusy},
		{at(0, 0, 0, 9), api.ErrBusy}, {at(0, 1, 0b10, 9), api.ErrBusy}, {at(0, 0, 0, 1<<32), api.ErrBusy}, {at(0, 1, 0, math.MaxInt), api.ErrBusy}, {at(0, 0, 1, 1<<20), api.ErrBusy},
	}
}

// P13.1: slots of the hold that Less refuses, at the front, between others, and behind them; whenever it ends, and whatever else is there.
func TestWrongSlots(t *testing.T) {
	a := sound()
	comes(t, a, 0)
	slots := a.h.Slots
	for _, x := range notThere() {
		for k := range len(slots) + 1 {
			for _, until := range untils(5) {
				for _, queue := range []int{0, 1} {
					b := a
					b.h = of(queue, until, slices.Insert(slices.Clone(slots), k, x.s)...)
					refused(t, b, x.e)
					b.ends = nil
					refused(t, b, x.e)
					b.left, b.w.Members = api.Units{}, 16
					refused(t, b, x.e)
				}
			}
		}
		a.h.Slots = []api.Slot{x.s}
		refused(t, a, x.e)
	}
}

// P13.1: units that the hold takes twice, a Gpu in two of its slots, or Cpus of which each slot alone has enough.
func TestTakenTwice(t *testing.T) {
	a := sound()
	for _, x := range []struct {
		slots []api.Slot
		e     api.Errno
	}{
		{[]api.Slot{at(0, 0, 0b1, 0), at(0, 0, 0b10, 0)}, api.OK},
		{[]api.Slot{at(0, 0, 0b1, 0), at(0, 0, 0b1, 0)}, api.ErrBusy},
		{[]api.Slot{at(0, 0, 0b11, 0), at(0, 1, 0b110, 0), at(0, 0, 0b110, 0)}, api.ErrBusy},
		{[]api.Slot{at(0, 0, 0, 4), at(0, 1, 0, 8), at(0, 0, 0, 4)}, api.OK},
		{[]api.Slot{at(0, 0, 0, 4), at(0, 1, 0, 8), at(0, 0, 0, 5)}, api.ErrBusy},
		{[]api.Slot{at(0, 0, 0, 8), at(0, 0, 0, 0)}, api.OK},
		{[]api.Slot{at(0, 0, 0, 8), at(0, 0, 0, 1)}, api.ErrBusy},
		{[]api.Slot{at(0, 0, 0, 1), at(0, 0, 0, math.MaxInt)}, api.ErrBusy},
		// What a hold that has ended gives back isn't there to be taken.
		{[]api.Slot{at(0, 1, 0b10000, 0)}, api.ErrBusy},
		{[]api.Slot{at(0, 1, 0, 9)}, api.ErrBusy},
	} {
		a.h = till(6, x.slots...)
		if x.e != api.OK {
			refused(t, a, x.e)
		} else if _, e := a.after(); e != api.OK {
			t.Error(a, e)
		}
	}
}

// notBack are slots that More refuses of sound's view and holds, whatever the hold takes.
func notBack() []wrong {
	return []wrong{
		{at(0, 0, 0, -1), api.ErrRange}, {at(0, 1, 1, -1), api.ErrRange}, {at(9, 9, 1, -1), api.ErrRange}, {at(0, 0, 0, math.MinInt), api.ErrRange},
		{at(0, 2, 0, 0), api.ErrNone}, {at(1, 0, 1, 1), api.ErrNone}, {at(-1, 0, 0, 0), api.ErrNone}, {at(0, 1<<32, every, math.MaxInt), api.ErrNone},
		{at(0, 0, 1, 0), api.ErrTwice}, {at(0, 1, 0b10, 0), api.ErrTwice}, {at(0, 0, every, 0), api.ErrTwice}, {at(0, 1, 0b1110, math.MaxInt), api.ErrTwice},
		{at(0, 0, 0, 1<<20), api.ErrOver}, {at(0, 1, 1<<40, 1<<20), api.ErrOver}, {at(0, 0, 0, math.MaxInt), api.ErrOver}, {at(0, 1, 1<<40, 1<<32), api.ErrOver},
	}
}

// P13.1: slots of holds that More refuses, in each hold, whenever it ends, whatever the hold that is asked for takes, though the head would fit without them.
func TestWrongHolds(t *testing.T) {
	a := sound()
	for _, x := range notBack() {
		for k := range len(a.ends) + 1 {
			for _, until := range []int{math.MinInt, -1, 0, 4, 6, 7, last, never, math.MaxInt} {
				for _, h := range []api.Hold{a.h, till(-1, a.h.Slots...), of(1, never, a.h.Slots[:1]...), till(6), {}} {
					b := a
					b.h = h
					b.ends = slices.Insert(slices.Clone(a.ends), k, till(until, x.s))
					refused(t, b, x.e)
					b.ends = slices.Insert(slices.Clone(a.ends), k, of(3, until, at(0, 1, 1<<20, 1), x.s, at(0, 0, 1<<20, 1)))
					refused(t, b, x.e)
				}
			}
		}
	}
}

// P13.1: slots that only the hold's own stand against: their Gpus are the hold's, or there would be too many Cpus with what the hold gives back.
func TestWrongBecauseOfHold(t *testing.T) {
	view := []api.Free{free(0, 0, 0b111, 1<<20), free(0, 1, 0b1, 1<<20-5)}
	for _, x := range []struct {
		slots []api.Slot
		mine  []api.Slot
		e     api.Errno
	}{
		{[]api.Slot{at(0, 0, 0b10, 0)}, []api.Slot{at(0, 0, 0b10, 0)}, api.ErrTwice},
		{[]api.Slot{at(0, 0, 0b10, 0)}, []api.Slot{at(0, 1, 1, 7), at(0, 0, 0b111, 9), at(0, 1, 0, 7)}, api.ErrTwice},
		{[]api.Slot{at(0, 1, 0b11, 0)}, []api.Slot{at(0, 0, 0b10, 0), at(0, 1, 0b1, 0)}, api.ErrTwice},
		{[]api.Slot{at(0, 0, 0b1000, 1)}, []api.Slot{at(0, 0, 0, 1)}, api.ErrOver},
		{[]api.Slot{at(0, 0, 0, 4), at(0, 0, 0, 5)}, []api.Slot{at(0, 0, 0, 9)}, api.ErrOver},
		{[]api.Slot{at(0, 1, 0, 6)}, []api.Slot{at(0, 1, 0, 1)}, api.ErrOver},
		{[]api.Slot{at(0, 1, 0, 5)}, []api.Slot{at(0, 1, 0, 1)}, api.OK},
		{[]api.Slot{at(0, 1, 0b10, 5)}, []api.Slot{at(0, 1, 0b1, 1<<20-5), at(0, 0, 0b111, 1<<20)}, api.OK},
		// Both its Gpus and its Cpus are wrong: the first of its slots that is wrong is told.
		{[]api.Slot{at(0, 0, 0b10, 3)}, []api.Slot{at(0, 0, 0b10, 0), at(0, 0, 0, 3)}, api.ErrTwice},
		{[]api.Slot{at(0, 0, 0b10, 3)}, []api.Slot{at(0, 0, 0, 3), at(0, 0, 0b10, 0)}, api.ErrOver},
		{[]api.Slot{at(0, 0, 0b10, 4)}, []api.Slot{at(0, 0, 0, 5), at(0, 0, 0b10, 0)}, api.ErrOver},
		{[]api.Slot{at(0, 0, 0b10, 3)}, []api.Slot{at(0, 0, 0, 1), at(0, 0, 0b10, 3)}, api.ErrTwice},
	} {
		for _, now := range []int{0, 4, 6, 9, last} {
			for _, ends := range [][2]int{{5, 7}, {7, 5}, {5, 5}, {-1, never}, {never, -1}, {never, never}} {
				a := ask{now: now, view: view, left: plenty, ends: []api.Hold{till(3), till(ends[0], x.slots...), till(5, at(0, 0, 1<<9, 0))}, w: want(1, 0, 1), h: till(ends[1], x.mine...)}
				if x.e != api.OK {
					refused(t, a, x.e)
				} else if _, e := a.after(); e != api.OK {
					t.Error(a, e)
				}
			}
		}
	}
}

// P13.1: the hold is behind the other holds: what is wrong with one of them is told ahead of what is wrong because of it.
func TestHoldIsLast(t *testing.T) {
	view := []api.Free{free(0, 0, 0b111, 1<<20)}
	mine := at(0, 0, 0b10, 6)
	twice, over := at(0, 0, 0b10, 0), at(0, 0, 0b1000, 2)
	for _, x := range []struct {
		slots []api.Slot
		e     api.Errno
	}{
		{[]api.Slot{twice}, api.ErrTwice}, {[]api.Slot{over}, api.ErrOver},
		// The hold's Gpu is asked for ahead of its Cpus.
		{[]api.Slot{twice, over}, api.ErrTwice}, {[]api.Slot{over, twice}, api.ErrTwice},
		{[]api.Slot{twice, at(0, 0, 0, -1)}, api.ErrRange}, {[]api.Slot{twice, at(0, 1, 0, 0)}, api.ErrNone}, {[]api.Slot{twice, at(0, 0, 0, 7)}, api.ErrOver},
		{[]api.Slot{over, at(0, 0, 0, -1)}, api.ErrRange}, {[]api.Slot{over, at(0, 1, 0, 0)}, api.ErrNone}, {[]api.Slot{over, at(0, 0, 0b1, 0)}, api.ErrTwice}, {[]api.Slot{over, at(0, 0, 0b1000, 0)}, api.ErrTwice}, {[]api.Slot{over, at(0, 0, 0, 4), at(0, 0, 0, 1)}, api.ErrOver},
	} {
		var apart []api.Hold
		for k, s := range x.slots {
			apart = append(apart, till(9-k, s))
		}
		for _, ends := range [][]api.Hold{{till(4, x.slots...)}, {till(12, x.slots...)}, apart} {
			for _, until := range []int{-1, 0, 8, 9, 30, never} {
				refused(t, ask{now: 1, view: view, left: plenty, ends: ends, w: want(1, 1, 0), h: till(until, mine)}, x.e)
			}
		}
	}
}

// wrongWants may not be.
func wrongWants() []api.Want {
	var l []api.Want
	for _, n := range []int{0, -1, -16, 17, 18, 256, 1 << 32, 1<<32 + 1, math.MinInt, math.MaxInt} {
		l = append(l, want(n, 1, 0), want(n, 2, 3))
	}
	for _, s := range []api.Shape{
		{}, {Min: 1, Max: 1}, {Gpus: 1}, {Gpus: 1, Min: 1}, {Gpus: 1, Max: 1}, {Gpus: 1, Min: 2, Max: 1}, {Cpus: 1, Min: 1, Max: 17}, {Cpus: 1, Min: 17, Max: 17}, {Cpus: 1, Min: -1, Max: 1},
		{Gpus: 17, Min: 1, Max: 1}, {Gpus: -1, Cpus: 1, Min: 1, Max: 1}, {Cpus: 1025, Min: 1, Max: 1}, {Gpus: 1, Cpus: -1, Min: 1, Max: 1}, {Gpus: math.MinInt, Cpus: 1, Min: 1, Max: 1}, {Gpus: 1, Cpus: math.MaxInt, Min: 1, Max: 1}, {Gpus: 1, Min: math.MinInt, Max: math.MaxInt},
	} {
		l = append(l, api.Want{Members: 1, Shape: s}, api.Want{Members: 16, Shape: s}, api.Want{Shape: s})
	}
	return l
}

// P13.1: a head that may not be is refused, whatever there is, and whatever the hold takes.
func TestWrongWants(t *testing.T) {
	for _, w := range wrongWants() {
		a := sound()
		a.w = w
		refused(t, a, api.ErrRange)
		a.h = api.Hold{}
		refused(t, a, api.ErrRange)
		a.h, a.left = till(never, a.h.Slots...), api.Units{Gpus: -most, Cpus: -most}
		refused(t, a, api.ErrRange)
		refused(t, ask{w: w}, api.ErrRange)
	}
}

// P13.1: several errors at once: the hold's slots, one behind the other; now and the want; the holds' slots.
func TestErrorOrder(t *testing.T) {
	nows := []int{-1, last + 1, math.MinInt, math.MaxInt}
	for _, x := range notThere() {
		for _, y := range notBack() {
			a := sound()
			a.ends = append(a.ends, till(4, y.s))
			refused(t, a, y.e)
			for _, now := range append(nows, 3) {
				for _, w := range []api.Want{want(1, 1, 1), want(0, 1, 1), {Members: 1}} {
					b := a
					b.now, b.w = now, w
					if now != 3 || w != want(1, 1, 1) {
						refused(t, b, api.ErrRange)
					}
					b.h.Slots = append(slices.Clone(a.h.Slots), x.s)
					refused(t, b, x.e)
				}
			}
		}
		for _, y := range notThere() {
			a := sound()
			a.h.Slots = append(slices.Clone(a.h.Slots), x.s, y.s)
			refused(t, a, x.e)
		}
		for _, w := range wrongWants() {
			a := sound()
			a.w, a.h.Slots = w, append(slices.Clone(a.h.Slots), x.s)
			refused(t, a, x.e)
		}
	}
	for _, y := range notBack() {
		for _, z := range notBack() {
			a := sound()
			a.ends = []api.Hold{a.ends[0], till(8, y.s), a.ends[1], till(3, z.s)}
			refused(t, a, y.e)
			a.ends = []api.Hold{a.ends[0], till(8, y.s, z.s), a.ends[1]}
			refused(t, a, y.e)
		}
	}
}

// P13.1: drawn views, holds and heads, asked tick by tick.
func TestAll(t *testing.T) {
	d := draws(0x9e3779b97f4a7c15)
	var atOnce, later, nevers, lasts, changed, own int
	for range 20000 {
		a := d.ask()
		tick := a.plain(30)
		comes(t, a, tick)
		switch {
		case tick == a.now:
			atOnce++
		case tick == never:
			nevers++
		case tick > 30:
			lasts++
		default:
			later++
		}
		if tick == a.h.Until {
			own++
		}
		if without, _ := promise.Earliest(a.now, a.view, a.left, a.ends, a.w); without != tick {
			changed++
		}
		if t.Failed() {
			return
		}
	}
	if atOnce < 1000 || later < 1000 || nevers < 1000 || lasts < 50 || changed < 1000 || own < 500 {
		t.Error(atOnce, later, nevers, lasts, changed, own)
	}
}

// spoil makes a slot wrong, at times.
func (d *draws) spoil(s *api.Slot) {
	switch d.below(14) {
	case 0:
		s.Cpus = -1 - d.below(3)
	case 1:
		s.Spot.Domain = 3
	case 2:
		s.Mask |= 1 << (d.below(5) * 3)
	case 3:
		s.Cpus = 1<<20 - d.below(4)
	}
}

// P13.1: drawn holds, some of whose slots are wrong, at ticks some of which are, and for heads some of which are.
func TestAllWrong(t *testing.T) {
	d := draws(0xd1342543de82ef95)
	errors := map[api.Errno]int{}
	for range 20000 {
		a := d.ask().clone()
		for k := range a.ends {
			for n := range a.ends[k].Slots {
				d.spoil(&a.ends[k].Slots[n])
			}
		}
		for n := range a.h.Slots {
			if d.below(3) == 0 {
				d.spoil(&a.h.Slots[n])
			}
		}
		switch d.below(20) {
		case 0:
			a.now = []int{-1, last + 1, math.MinInt, math.MaxInt}[d.below(4)]
		case 1:
			a.w.Members = []int{0, 17, -1}[d.below(3)]
		}
		e := a.plainError()
		errors[e]++
		if e == api.OK {
			comes(t, a, a.plain(30))
		} else {
			refused(t, a, e)
		}
		if t.Failed() {
			return
		}
	}
	for _, e := range []api.Errno{api.OK, api.ErrRange, api.ErrNone, api.ErrBusy, api.ErrTwice, api.ErrOver} {
		if errors[e] < 300 {
			t.Error(e, errors[e])
		}
	}
}

// P13.2: a hold without units is safe beside a head that fits by its promise, and beside no other one: it changes no tick.
func TestWithoutUnits(t *testing.T) {
	d := draws(0x2545f4914f6cdd1d)
	for range 3000 {
		a := d.ask()
		tick, e := promise.Earliest(a.now, a.view, a.left, a.ends, a.w)
		if e != api.OK {
			t.Fatal(a, e)
		}
		slots := []api.Slot{}
		for n := range d.below(4) {
			if len(a.view) > 0 {
				slots = append(slots, api.Slot{Spot: a.view[n%len(a.view)].Spot})
			}
		}
		a.h.Slots = slots
		comes(t, a, tick)
		says(t, a, tick, true)
		says(t, a, tick-1, tick == a.now)
		a.h.Slots = nil
		comes(t, a, tick)
		if t.Failed() {
			return
		}
	}
}

// P13.2: a hold that is safe is safe, if it ends earlier; and no head is later beside it.
func TestEndsEarlier(t *testing.T) {
	d := draws(0x853c49e6748fea9b)
	sooner, turned := 0, 0
	for range 4000 {
		a := d.ask()
		tick, _ := a.after()
		promised := []int{a.now, tick, tick - 1, a.now - 3, d.below(24), never}[d.below(6)]
		safe, _ := a.safe(promised)
		for _, until := range append(untils(a.now, tick, promised), 3, 6, 9, 12, 15, 18, 21) {
			if until >= a.h.Until {
				continue
			}
			b := a
			b.h.Until = until
			n, e := b.after()
			is, f := b.safe(promised)
			if n > tick || e != api.OK || f != api.OK || safe && !is {
				t.Fatalf("After(%v) = %d, Safe %v, but %v: %d, %d, Safe %v, %d", a, tick, safe, b, n, e, is, f)
			}
			if n < tick {
				sooner++
			}
			if is && !safe {
				turned++
			}
		}
	}
	if sooner < 1000 || turned < 500 {
		t.Error(sooner, turned)
	}
}

// P13.2: what is promised Never, or behind it, no hold endangers.
func TestPromisedNever(t *testing.T) {
	d := draws(0x6c62272e07bb0142)
	nevers := 0
	for range 3000 {
		a := d.ask()
		for _, until := range []int{a.h.Until, never, math.MaxInt, math.MinInt} {
			a.h.Until = until
			for _, promised := range []int{never, never + 1, 1 << 32, math.MaxInt} {
				says(t, a, promised, true)
			}
			if n, _ := a.after(); n == never {
				nevers++
				says(t, a, last, false)
			}
		}
		if t.Failed() {
			return
		}
	}
	if nevers < 500 {
		t.Error(nevers)
	}
}

// P13.2: with the hold taken, the head fits at the tick that After tells, all holds having ended by their Until; without it, it is no later.
func TestFitsThen(t *testing.T) {
	d := draws(0xa0761d6478bd642f)
	for range 5000 {
		a := d.ask()
		tick, _ := a.after()
		without, _ := promise.Earliest(a.now, a.view, a.left, a.ends, a.w)
		if tick < without {
			t.Fatal(a, tick, without)
		}
		if tick == never {
			continue
		}
		view, e := pack.Less(a.view, a.h.Slots)
		left := plainLeft(a.left, a.h, a.w.Queue, -1)
		for _, h := range append(slices.Clone(a.ends), a.h) {
			if h.Until <= tick && e == api.OK {
				view, e = pack.More(view, h.Slots)
				left = plainLeft(left, h, a.w.Queue, 1)
			}
		}
		if e != api.OK || !promise.Fits(view, left, a.w) {
			t.Fatal(a, tick, e)
		}
	}
}

// P13.1: as many holds as there may be gangs, each with an end of its own, in rows that rise, fall and jump, and a hold beside them.
func TestMany(t *testing.T) {
	view := []api.Free{free(20, 0, 0xffff, 16)}
	for k := range 64 {
		view = append(view, free(k/4, k%4, 0, 0))
	}
	const n = 4096
	for _, end := range []func(int) int{func(k int) int { return k }, func(k int) int { return n - 1 - k }, func(k int) int { return k * 1237 % n }} {
		var ends []api.Hold
		for k := range n {
			// Whichever ends at the tick x has a unit of the spot x/64: so room grows tick by tick.
			x := end(k)
			ends = append(ends, of(x%2, x, at(x/64/4, x/64%4, 1<<(x%64), 1)))
		}
		a := ask{view: view, left: plenty, ends: ends, w: want(16, 1, 0)}
		for _, x := range []struct {
			gpus, until, queue int
			m                  uint64
			after              int
		}{
			{99, never, 0, 0, 0}, {99, never, 0, 0xffff, 15}, {99, never, 1, 0xffff, 15}, {99, 5, 0, 0xffff, 5}, {99, 0, 0, 0xffff, 0}, {99, 16, 0, 0xffff, 15}, {99, never, 0, 0xfff0, 11}, {99, 11, 0, 0xfff0, 11}, {99, 10, 0, 0xfff0, 10},
			{16, never, 0, 0xffff, 30}, {16, never, 1, 0xffff, 15}, {32, never, 0, 0xffff, 15}, {16, 20, 0, 0xffff, 20}, {16, n, 0, 0xff, 14}, {0, n, 0, 0xffff, 62}, {0, n, 1, 0xffff, 30}, {0, 40, 0, 0xffff, 40}, {0, 10, 0, 0xffff, 30},
			{16 - n/2, n, 0, 0xffff, n}, {16 - n/2, never, 0, 0xffff, never}, {16 - n/2, n, 1, 0xffff, n - 2}, {15 - n/2, 1, 0, 0, never},
		} {
			a.left.Gpus, a.h = x.gpus, of(x.queue, x.until, at(20, 0, x.m, 7))
			if tick, e := a.after(); tick != x.after || e != api.OK {
				t.Error(a, tick, e, x.after)
			}
			says(t, a, x.after, true)
			says(t, a, x.after-1, x.after == 0)
		}
	}
}

// Rule 3: the view, the holds and the slots that are handed in stay as they are, their spare room too, in calls that are right and in those that are refused.
func TestArgumentsAreLeft(t *testing.T) {
	// One list of slots, of which each hold has a part, and behind it there is room.
	slots := []api.Slot{at(0, 0, 0b10, 1), at(0, 1, 0b10, 1), at(0, 0, 0b100, 1), at(0, 1, 0b100, 2), at(0, 0, 0b1000, 0), at(0, 1, 0b1, 3), at(0, 1, 0b1, 2), at(5, 5, 0, 0)}
	holds := []api.Hold{till(9, slots[:1]...), till(3, slots[1:2]...), till(6, slots[2:4]...), till(2, slots[4:5]...), till(1, slots[7:8]...)}
	mine := []api.Hold{till(5, slots[5:6]...), of(1, 7, slots[5:5]...), till(never, slots[5:7]...), till(4, slots[4:6]...)}
	view := []api.Free{free(0, 0, 0b1001, 4), free(0, 1, 1, 4), free(7, 7, 5, 5)}
	slotsWere, holdsWere, mineWere, viewWas := slices.Clone(slots), slices.Clone(holds), slices.Clone(mine), slices.Clone(view)
	errors := map[api.Errno]int{}
	for n := range len(holds) {
		for _, h := range mine {
			for now := -1; now < 12; now++ {
				for members := range 18 {
					_, e := fill.After(now, view[:2], api.Units{Gpus: 5, Cpus: 30}, holds[:n], want(members, 1, 1), h)
					_, f := fill.Safe(now, view[:2], api.Units{Gpus: 5, Cpus: 30}, holds[:n], want(members, 1, 1), 6, h)
					if e != f {
						t.Fatal(e, f)
					}
					errors[e]++
				}
			}
		}
	}
	if !slices.Equal(slots, slotsWere) || !slices.Equal(view, viewWas) || !slices.EqualFunc(holds, holdsWere, sameHold) || !slices.EqualFunc(mine, mineWere, sameHold) {
		t.Error(slots, view, holds, mine)
	}
	if errors[api.OK] == 0 || errors[api.ErrRange] == 0 || errors[api.ErrBusy] == 0 || errors[api.ErrTwice] == 0 {
		t.Error(errors)
	}
}

// Rule 3: drawn views, holds and slots, each with spare room, stay as they are too.
func TestDrawnAreLeft(t *testing.T) {
	d := draws(0x6a09e667f3bcc909)
	for range 2000 {
		a := d.ask().clone()
		spare := till(3, at(8, 8, 5, 5))
		all := append(slices.Clone(a.ends), a.h)
		for k := range all {
			all[k].Slots = append(all[k].Slots, spare.Slots[0])[:len(all[k].Slots)]
		}
		a.ends, a.h = all[:len(all)-1:len(all)-1], all[len(all)-1]
		a.ends = append(a.ends, spare)[:len(a.ends)]
		a.view = append(a.view, free(8, 8, 5, 5))[:len(a.view)]
		was := a.clone()
		a.after()
		a.safe(d.below(24))
		if !a.same(was) || a.view[:len(a.view)+1][len(a.view)] != free(8, 8, 5, 5) || !sameHold(a.ends[:len(a.ends)+1][len(a.ends)], spare) {
			t.Fatal(a, was)
		}
		for _, h := range all {
			if h.Slots[:len(h.Slots)+1][len(h.Slots)] != spare.Slots[0] {
				t.Fatal(h)
			}
		}
	}
}

// Rule 4: the same calls answer the same, whatever was asked between, and whatever is done to what was handed in.
func TestSameAgain(t *testing.T) {
	d := draws(0xbb67ae8584caa73b)
	var asks []ask
	var ticks []int
	for range 300 {
		a := d.ask()
		tick, _ := a.after()
		asks, ticks = append(asks, a.clone()), append(ticks, tick)
		for k := range a.view {
			a.view[k] = free(9, 9, 0, 0)
		}
		for k := range a.ends {
			a.ends[k] = till(0)
		}
		for k := range a.h.Slots {
			a.h.Slots[k] = api.Slot{}
		}
		a.after()
		a.safe(tick)
	}
	for k := len(asks) - 1; k >= 0; k-- {
		comes(t, asks[k], ticks[k])
		comes(t, asks[k].clone(), ticks[k])
	}
}

// P13.1: a hold's Id, and whether it runs, play no part, also where it is one that is there.
func TestWhateverElse(t *testing.T) {
	a := sound()
	a.w = want(5, 1, 1)
	a.left = api.Units{Gpus: 6, Cpus: 12}
	comes(t, a, 3)
	for _, id := range []int{0, 1, 7, 65536, -1, math.MinInt, math.MaxInt} {
		for _, running := range []bool{false, true} {
			a.h.Id, a.h.Running = id, running
			comes(t, a, a.plain(30))
		}
	}
	for _, w := range []api.Want{
		{Members: 5, Shape: api.Shape{Gpus: 1, Cpus: 1, Min: 6, Max: 6}},
		{Members: 5, Shape: api.Shape{Gpus: 1, Cpus: 1, Min: 1, Max: 4}},
	} {
		a.w = w
		comes(t, a, a.plain(30))
	}
}

// Rule 5: of views and units left that the chapters shut out nothing is promised, but the calls end.
func TestOthersEnd(t *testing.T) {
	numbers := []int{math.MinInt, -most - 1, -1, 0, 1, 1<<20 + 1, most + 1, math.MaxInt}
	for _, x := range numbers {
		for _, y := range numbers {
			view := []api.Free{free(0, 0, 1, x), free(0, 0, 6, y), free(x, y, every, y)}
			left := api.Units{Gpus: x, Cpus: y}
			for _, z := range numbers {
				ends := []api.Hold{till(z, at(0, 0, 8, 1)), of(z, y, at(x, y, 0, 3)), till(x, at(0, 0, 16, z))}
				for n := range len(ends) + 1 {
					for _, h := range []api.Hold{till(z), of(y, x, at(0, 0, 2, z)), till(y, at(x, y, 1, 0), at(0, 0, 4, y))} {
						fill.After(0, view, left, ends[:n], want(1, 1, 1), h)
						fill.Safe(last, view, left, ends[:n], want(16, 16, 1024), z, h)
					}
				}
			}
		}
	}
}
