package promise_test

import (
	"math"
	"slices"
	"testing"

	"ensemble/api"
	"ensemble/pack"
	"ensemble/promise"
)

// The chapter's example: of 4 Gpus 3 are held till 7.
func TestExample(t *testing.T) {
	a := ask{now: 2, view: []api.Free{free(0, 0, 0b0001, 0)}, left: plenty, ends: []api.Hold{till(7, at(0, 0, 0b1110, 0))}}
	for members, tick := range map[int]int{1: 2, 2: 7, 4: 7, 5: never} {
		a.w = want(members, 1, 0)
		comes(t, a, tick)
	}
}

// P12.1: room, and units left; just as much as is needed, and one unit less.
func TestFits(t *testing.T) {
	two := []api.Free{free(1, 0, 0b1011, 8), free(0, 1, 0b110, 5)}
	for i, x := range []struct {
		view []api.Free
		left api.Units
		w    api.Want
		want bool
	}{
		// Nothing there, and nothing free there.
		{nil, plenty, want(1, 1, 0), false},
		{[]api.Free{}, plenty, want(1, 0, 1), false},
		{[]api.Free{free(0, 0, 0, 0)}, plenty, want(1, 1, 0), false},
		{[]api.Free{free(0, 0, 0, 0), free(0, 1, 0, 0)}, plenty, want(1, 0, 1), false},

		// Room just as much, and a unit less, of each kind.
		{[]api.Free{free(0, 0, 0b100, 0)}, plenty, want(1, 1, 0), true},
		{[]api.Free{free(0, 0, 0b101, 9)}, plenty, want(1, 2, 3), true},
		{[]api.Free{free(0, 0, 0b100, 9)}, plenty, want(1, 2, 3), false},
		{[]api.Free{free(0, 0, 0b11, 3)}, plenty, want(1, 2, 3), true},
		{[]api.Free{free(0, 0, 0b11, 2)}, plenty, want(1, 2, 3), false},
		{two, plenty, want(5, 1, 0), true},
		{two, plenty, want(6, 1, 0), false},
		{two, plenty, want(2, 2, 5), true},
		{two, plenty, want(2, 2, 6), false},
		// Together they would have enough, but a member has all of one spot.
		{two, plenty, want(1, 4, 0), false},
		{two, plenty, want(3, 0, 4), true},
		{two, plenty, want(4, 0, 4), false},
		{[]api.Free{free(0, 0, every, 1<<20)}, plenty, want(16, 4, 1024), true},
		{[]api.Free{free(0, 0, every>>1, 1<<20)}, plenty, want(16, 4, 1024), false},
		{[]api.Free{free(0, 0, every, 16*1024-1)}, plenty, want(16, 4, 1024), false},

		// Units left just as many, and one less, of each kind, and of both.
		{two, api.Units{Gpus: 4, Cpus: 10}, want(2, 2, 5), true},
		{two, api.Units{Gpus: 3, Cpus: 10}, want(2, 2, 5), false},
		{two, api.Units{Gpus: 4, Cpus: 9}, want(2, 2, 5), false},
		{two, api.Units{Gpus: 3, Cpus: 9}, want(2, 2, 5), false},
		{two, api.Units{Gpus: 3, Cpus: most}, want(2, 2, 5), false},
		{two, api.Units{Gpus: most, Cpus: 9}, want(2, 2, 5), false},
		// As many of one kind don't stand for the other.
		{two, api.Units{Gpus: 10, Cpus: 4}, want(2, 2, 5), false},
		// Units, but room for one less.
		{two, api.Units{Gpus: 6, Cpus: 15}, want(3, 2, 5), false},
		{two, api.Units{}, want(1, 1, 0), false},
		{two, api.Units{}, want(1, 0, 1), false},

		// Of a kind that nobody needs, 0 is enough, and below 0 is not.
		{two, api.Units{Gpus: 5}, want(5, 1, 0), true},
		{two, api.Units{Cpus: 13}, want(13, 0, 1), true},
		{two, api.Units{Gpus: 5, Cpus: -1}, want(5, 1, 0), false},
		{two, api.Units{Gpus: -1, Cpus: 13}, want(13, 0, 1), false},

		// Far below 0, and far above.
		{two, api.Units{Gpus: -most, Cpus: -most}, want(1, 1, 1), false},
		{two, api.Units{Gpus: -most, Cpus: most}, want(1, 1, 1), false},
		{two, api.Units{Gpus: most, Cpus: -most}, want(1, 1, 1), false},
		{two, api.Units{Gpus: -most, Cpus: most}, want(1, 0, 1), false},
	} {
		if is := promise.Fits(x.view, x.left, x.w); is != x.want {
			t.Errorf("%d: Fits(%v, %v, %v) = %v", i, x.view, x.left, x.w, is)
		}
	}
}

// P12.1: 1 to 16 members, in one spot and in many, by units and by room.
func TestFitsSixteen(t *testing.T) {
	one := []api.Free{free(0, 0, 0xffff, 1<<20)}
	var each []api.Free
	for k := range 16 {
		each = append(each, free(k/4, k%4, 1<<k, 2))
	}
	for n := 1; n <= 16; n++ {
		w, left := want(n, 1, 2), api.Units{Gpus: n, Cpus: 2 * n}
		few := []api.Free{free(0, 0, 0xffff>>(16-n), 1<<20)}
		if !promise.Fits(one, left, w) || !promise.Fits(each, left, w) || !promise.Fits(each[:n], left, w) || !promise.Fits(few, left, w) {
			t.Error(n)
		}
		few[0].Mask >>= 1
		if promise.Fits(each[1:n], left, w) || promise.Fits(few, left, w) {
			t.Error(n)
		}
		for _, less := range []api.Units{{Gpus: n - 1, Cpus: 2 * n}, {Gpus: n, Cpus: 2*n - 1}} {
			if promise.Fits(one, less, w) || promise.Fits(each, less, w) {
				t.Error(n, less)
			}
		}
	}
}

// P12.1: how many members the shape has least or most plays no part, and neither does the queue.
func TestFitsWhateverElse(t *testing.T) {
	view := []api.Free{free(0, 0, 0xffff, 0)}
	for _, w := range []api.Want{
		{Members: 1, Shape: api.Shape{Gpus: 1, Min: 2, Max: 4}},
		{Members: 5, Shape: api.Shape{Gpus: 1, Min: 2, Max: 4}},
		{Members: 16, Shape: api.Shape{Gpus: 1, Min: 1, Max: 1}},
		{Queue: -1, Members: 3, Shape: api.Shape{Gpus: 1, Min: 16, Max: 16}},
		{Queue: math.MinInt, Members: 1, Shape: api.Shape{Gpus: 16, Min: 1, Max: 16}},
		{Queue: math.MaxInt, Members: 1, Shape: api.Shape{Gpus: 16, Min: 1, Max: 16}},
	} {
		if !promise.Fits(view, plenty, w) {
			t.Error(w)
		}
		comes(t, ask{now: 5, view: view, left: plenty, w: w}, 5)
	}
}

// wrongWants may not be.
func wrongWants() []api.Want {
	var wrong []api.Want
	for _, n := range []int{0, -1, -2, -16, 17, 18, 32, 256, 257, 1 << 32, 1<<32 + 1, -1 << 32, 1<<32 + 16, math.MinInt, math.MinInt + 1, math.MaxInt} {
		wrong = append(wrong, want(n, 1, 0), want(n, 0, 1), want(n, 2, 3))
	}
	for _, s := range []api.Shape{
		{}, {Min: 1, Max: 1}, {Gpus: 1}, {Gpus: 1, Min: 1}, {Gpus: 1, Max: 1}, {Gpus: 1, Min: 2, Max: 1}, {Cpus: 1, Min: 1, Max: 17}, {Cpus: 1, Min: 17, Max: 17}, {Cpus: 1, Min: -1, Max: 1}, {Cpus: 1, Min: 0, Max: 1},
		{Gpus: 17, Min: 1, Max: 1}, {Gpus: -1, Min: 1, Max: 1}, {Gpus: -1, Cpus: 1, Min: 1, Max: 1}, {Cpus: 1025, Min: 1, Max: 1}, {Cpus: -1, Min: 1, Max: 1}, {Gpus: 1, Cpus: -1, Min: 1, Max: 1},
		{Gpus: math.MinInt, Cpus: 1, Min: 1, Max: 1}, {Gpus: 1, Cpus: math.MaxInt, Min: 1, Max: 1}, {Gpus: math.MaxInt, Cpus: 1, Min: 1, Max: 1}, {Gpus: 1, Min: math.MinInt, Max: math.MaxInt}, {Gpus: 1 << 32, Cpus: 1, Min: 1, Max: 1},
	} {
		for _, n := range []int{1, 2, 16} {
			wrong = append(wrong, api.Want{Members: n, Shape: s})
		}
		wrong = append(wrong, api.Want{Shape: s}, api.Want{Members: 17, Shape: s})
	}
	return wrong
}

// P12.1: a want that may not be fits nowhere, and is promised nothing, whatever there is.
func TestWrongWants(t *testing.T) {
	var roomy []api.Free
	for k := range 20 {
		roomy = append(roomy, free(k, 0, every, 1<<20))
	}
	for _, w := range wrongWants() {
		for _, view := range [][]api.Free{nil, roomy[:1], roomy} {
			for _, left := range []api.Units{{}, plenty, {Gpus: -most, Cpus: -most}} {
				if promise.Fits(view, left, w) {
					t.Error("Fits", w)
				}
				refused(t, ask{now: 3, view: view, left: left, w: w}, api.ErrRange)
				refused(t, ask{now: 3, left: left, view: []api.Free{free(0, 0, 0, 0)}, ends: []api.Hold{till(5, at(0, 0, every, 1<<20))}, w: w}, api.ErrRange)
			}
		}
	}
}

// P12.1: ticks that may be now, and those that may not.
func TestNows(t *testing.T) {
	view := []api.Free{free(0, 0, 1, 1)}
	ends := []api.Hold{till(9, at(0, 0, 2, 1))}
	for _, now := range []int{0, 1, 2, 63, 65535, 65536, last - 1, last} {
		comes(t, ask{now: now, view: view, left: plenty, w: want(1, 1, 1)}, now)
		comes(t, ask{now: now, view: view, left: plenty, ends: ends, w: want(2, 1, 1)}, max(now, 9))
		comes(t, ask{now: now, view: view, left: plenty, ends: ends, w: want(3, 1, 1)}, never)
	}
	for _, now := range []int{-1, -2, -last, -1 << 32, math.MinInt, math.MinInt + 1, last + 1, last + 2, 1 << 31, 1 << 32, 1<<32 + 1, math.MaxInt - 1, math.MaxInt} {
		for n := range 4 {
			refused(t, ask{now: now, view: view, left: plenty, ends: ends, w: want(n, 1, 1)}, api.ErrRange)
			refused(t, ask{now: now, left: api.Units{Gpus: -1}, w: want(n, 1, 1)}, api.ErrRange)
		}
	}
}

// P12.1: a hold's end, and now: what has ended by now is there at once, and what ends at Never or behind it isn't there at all.
func TestEnds(t *testing.T) {
	for _, now := range []int{0, 1, 5, 6, 7, 1000, last - 1, last} {
		for _, until := range []int{math.MinInt, math.MinInt + 1, -1 << 32, -last, -2, -1, 0, 1, 2, 4, 5, 6, 7, 8, 999, 1000, 1001, last - 2, last - 1, last, never, never + 1, 1 << 31, 1 << 32, 1<<32 + 6, math.MaxInt - 1, math.MaxInt} {
			tick := never
			if until <= last {
				tick = max(now, until)
			}
			a := ask{now: now, view: []api.Free{free(0, 0, 1, 1)}, left: plenty, ends: []api.Hold{till(until, at(0, 0, 6, 5))}, w: want(3, 1, 2)}
			comes(t, a, tick)
			a.w.Members = 1
			a.w.Shape.Cpus = 1
			comes(t, a, now)
			a.w.Members = 4
			comes(t, a, never)

			// That it is the units left that are lacking makes no difference.
			a = ask{now: now, view: []api.Free{free(0, 0, 0xff, 99)}, left: api.Units{Gpus: 1, Cpus: 1}, ends: []api.Hold{till(until, at(0, 0, 0x300, 5))}, w: want(3, 1, 2)}
			comes(t, a, tick)
			a.w.Members = 4
			comes(t, a, never)
		}
	}
}

// P12.1: with nothing held, or with nothing in what is held, the answer is now or Never.
func TestNothingHeld(t *testing.T) {
	empty := [][]api.Hold{nil, {}, {till(9)}, {till(-1), of(1, 12), till(9), of(2, never)}, {till(9, at(0, 1, 0, 0), at(0, 0, 0, 0)), till(11, at(0, 0, 0, 0))}}
	view := []api.Free{free(0, 0, 0b1101, 5), free(0, 1, 0b1, 2)}
	for _, ends := range empty {
		for _, now := range []int{0, 8, 9, 10, 11, 12, last} {
			for n := 1; n <= 16; n++ {
				for _, left := range []api.Units{plenty, {Gpus: 3, Cpus: 6}, {}, {Gpus: -1, Cpus: 4}} {
					a := ask{now: now, view: view, left: left, ends: ends, w: want(n, 1, 1)}
					tick := never
					if promise.Fits(view, left, a.w) {
						tick = now
					}
					if fits := n <= 4 && n <= left.Gpus && n <= left.Cpus; fits != (tick == now) {
						t.Fatal(n, left)
					}
					comes(t, a, tick)
				}
			}
		}
	}
	comes(t, ask{now: 4, left: plenty, w: want(1, 0, 1)}, never)
	comes(t, ask{now: 4, left: plenty, ends: []api.Hold{till(3), till(6)}, w: want(1, 0, 1)}, never)
}

// orders goes through every order of the holds.
func orders(ends []api.Hold, each func([]api.Hold)) {
	var put func(int)
	row := slices.Clone(ends)
	put = func(k int) {
		if k == len(row) {
			each(slices.Clone(row))
			return
		}
		for n := k; n < len(row); n++ {
			row[k], row[n] = row[n], row[k]
			put(k + 1)
			row[k], row[n] = row[n], row[k]
		}
	}
	put(0)
}

// P12.1: a want fits now, at the first end, at one between, only behind the last one, or never; in whatever order the holds come, several of which end at one tick.
func TestOrders(t *testing.T) {
	view := []api.Free{free(2, 0, 1, 20), free(0, 1, 0, 20)}
	ends := []api.Hold{
		till(9, at(2, 0, 0b10, 0)),
		till(6, at(0, 1, 0b1, 0)),
		till(9, at(0, 1, 0b1100, 0)),
		till(20, at(2, 0, 0b100, 0), at(0, 1, 0b10, 0)),
		till(6, at(2, 0, 0b1000, 0)),
		till(never, at(0, 1, 0b10000, 0)),
	}
	ticks := []int{2, 6, 6, 9, 9, 9, 20, 20, never, never}
	n := 0
	orders(ends, func(row []api.Hold) {
		n++
		for k, tick := range ticks {
			comes(t, ask{now: 2, view: view, left: plenty, ends: row, w: want(k+1, 1, 0)}, tick)
			comes(t, ask{now: 7, view: view, left: plenty, ends: row, w: want(k+1, 1, 0)}, max(7, tick))
		}
		// Two Gpus of one spot are there at 6, three at 9.
		comes(t, ask{now: 2, view: view, left: plenty, ends: row, w: want(1, 2, 1)}, 6)
		comes(t, ask{now: 2, view: view, left: plenty, ends: row, w: want(2, 2, 1)}, 9)
		comes(t, ask{now: 2, view: view, left: plenty, ends: row, w: want(2, 3, 1)}, 9)
		comes(t, ask{now: 2, view: view, left: plenty, ends: row, w: want(2, 4, 1)}, 20)
	})
	if n != 720 {
		t.Error(n)
	}
}

// P12.1: units come back to the queue whose holds end, and to no other; a place is free whoever had it.
func TestQueues(t *testing.T) {
	view := []api.Free{free(0, 0, 0, 0)}
	for _, q := range []int{0, 1, 7, 8, -1, 65536, 1 << 32, math.MinInt, math.MaxInt} {
		for _, other := range []int{2, -2, 3 + 1<<32, math.MinInt + 1, math.MaxInt - 1} {
			w := want(1, 2, 3)
			w.Queue = q
			mine, theirs := of(q, 8, at(0, 0, 0b11, 3)), of(other, 5, at(0, 0, 0b1100, 3))
			comes(t, ask{view: view, ends: []api.Hold{mine}, w: w}, 8)
			comes(t, ask{view: view, ends: []api.Hold{theirs}, w: w}, never)
			comes(t, ask{view: view, left: api.Units{Gpus: 2, Cpus: 3}, ends: []api.Hold{theirs}, w: w}, 5)
			comes(t, ask{view: view, left: api.Units{Gpus: 1, Cpus: 3}, ends: []api.Hold{theirs}, w: w}, never)
			comes(t, ask{view: view, left: api.Units{Gpus: 2, Cpus: 2}, ends: []api.Hold{theirs}, w: w}, never)
			for _, ends := range [][]api.Hold{{mine, theirs}, {theirs, mine}} {
				comes(t, ask{view: view, ends: ends, w: w}, 8)
				comes(t, ask{view: view, left: api.Units{Gpus: 2, Cpus: 3}, ends: ends, w: w}, 5)
				comes(t, ask{now: 6, view: view, left: api.Units{Gpus: 2, Cpus: 3}, ends: ends, w: w}, 6)
				w.Members = 2
				comes(t, ask{view: view, left: api.Units{Gpus: 2, Cpus: 3}, ends: ends, w: w}, 8)
				comes(t, ask{view: view, left: api.Units{Gpus: 1, Cpus: 3}, ends: ends, w: w}, never)
				comes(t, ask{view: view, left: api.Units{Gpus: 2, Cpus: 2}, ends: ends, w: w}, never)
				w.Members = 1
			}
		}
	}
}

// P12.1: room, but units too few till a hold of the queue ends, and the other way round.
func TestRoomOrUnits(t *testing.T) {
	view := []api.Free{free(0, 0, 0b1, 9), free(0, 1, 0b1, 9)}
	ends := []api.Hold{of(1, 4, at(0, 0, 0b10, 0)), of(0, 6, at(0, 1, 0b110, 4)), of(1, 8, at(0, 0, 0b100, 1)), of(0, 10, at(0, 0, 0b1000, 1))}
	for _, x := range []struct{ gpus, cpus, members, tick int }{
		{1, 9, 2, 6}, {2, 9, 2, 1}, {1, 1, 2, 6}, {0, 9, 2, 6}, {-1, 9, 2, 10}, {-1, 0, 2, 10}, {-2, 9, 2, never},
		{9, 2, 2, 1}, {9, 1, 2, 6}, {9, -2, 2, 6}, {9, -3, 2, 10}, {9, -4, 2, never},
		{9, 9, 3, 4}, {2, 9, 3, 6}, {1, 9, 3, 6}, {0, 9, 3, 10}, {-1, 9, 3, never}, {3, 9, 3, 4}, {9, 3, 3, 4}, {9, 2, 3, 6},
		{9, 9, 5, 6}, {9, 9, 6, 8}, {9, 9, 7, 10}, {4, 9, 6, 8}, {3, 9, 6, 10}, {2, 9, 6, never}, {9, 2, 6, 8}, {9, 1, 6, 10}, {9, 0, 6, never},
		{most, most, 7, 10}, {most, -most, 1, never}, {-most, most, 1, never}, {-most, -most, 1, never}, {most, most, 8, never},
	} {
		comes(t, ask{now: 1, view: view, left: api.Units{Gpus: x.gpus, Cpus: x.cpus}, ends: ends, w: want(x.members, 1, 1)}, x.tick)
	}
}

// P12.1: a hold of several spots ends in all of them at once, and one of one spot may have several slots there.
func TestSlotsOfHolds(t *testing.T) {
	view := []api.Free{free(3, 2, 0, 0), free(0, 0, 0, 1), free(1, 1, 0, 0)}
	ends := []api.Hold{
		till(30, at(1, 1, 1<<63, 0), at(0, 0, 1, 0), at(3, 2, 1, 1<<20)),
		till(12, at(0, 0, 0b10, 7), at(0, 0, 0b100, 8), at(1, 1, 0b1, 0), at(0, 0, 0, 4)),
		till(21),
	}
	for _, x := range []struct {
		w    api.Want
		tick int
	}{
		{want(1, 0, 1), 0}, {want(1, 0, 2), 12}, {want(1, 0, 20), 12}, {want(1, 0, 21), 30}, {want(3, 1, 0), 12}, {want(4, 1, 0), 30},
		{want(1, 3, 20), 30}, {want(1, 2, 20), 12}, {want(1, 1, 21), 30}, {want(1, 3, 21), never}, {want(6, 1, 0), 30}, {want(7, 1, 0), never}, {want(16, 0, 1024), 30}, {want(16, 0, 2), 30}, {want(16, 0, 1), 12}, {want(2, 2, 0), 30}, {want(3, 2, 0), never},
	} {
		comes(t, ask{view: view, left: plenty, ends: ends, w: x.w}, x.tick)
	}
}

// wrongSlots are such as More refuses, in each of its ways, put behind holds of soundHolds.
func wrongSlots() []struct {
	s api.Slot
	e api.Errno
} {
	return []struct {
		s api.Slot
		e api.Errno
	}{
		{at(0, 0, 0, -1), api.ErrRange}, {at(0, 1, 1, -1), api.ErrRange}, {at(9, 9, 1, -1), api.ErrRange}, {at(0, 0, 0, math.MinInt), api.ErrRange}, {at(0, 1, 0, -1<<32), api.ErrRange},
		{at(0, 2, 0, 0), api.ErrNone}, {at(1, 0, 1, 1), api.ErrNone}, {at(-1, 0, 0, 0), api.ErrNone}, {at(0, -1, 0, 0), api.ErrNone}, {at(1<<32, 0, 0, 0), api.ErrNone}, {at(math.MinInt, math.MaxInt, every, math.MaxInt), api.ErrNone},
		{at(0, 0, 1, 0), api.ErrTwice}, {at(0, 1, 0b100, 0), api.ErrTwice}, {at(0, 0, every, 0), api.ErrTwice}, {at(0, 0, 1, 1<<20), api.ErrTwice}, {at(0, 1, 0b1100, math.MaxInt), api.ErrTwice},
		{at(0, 0, 0, 1<<20), api.ErrOver}, {at(0, 1, 1<<40, 1<<20), api.ErrOver}, {at(0, 0, 0, math.MaxInt), api.ErrOver}, {at(0, 1, 1<<40, 1<<32), api.ErrOver},
	}
}

// sound is a view, and holds that More lets be.
func sound() ([]api.Free, []api.Hold) {
	return []api.Free{free(0, 0, 0b1, 8), free(0, 1, 0b100, 8)}, []api.Hold{till(5, at(0, 0, 0b10, 1)), of(1, 3, at(0, 1, 0b1000, 1), at(0, 0, 0b1000, 1)), till(never, at(0, 0, 0b10000, 1)), till(-4, at(0, 1, 0b10000, 1))}
}

// P12.1: slots that More refuses, in each hold, whenever it ends, in front of its other slots and behind them, though the want would fit without them.
func TestWrongSlots(t *testing.T) {
	view, ends := sound()
	comes(t, ask{view: view, left: plenty, ends: ends, w: want(1, 1, 1)}, 0)
	for _, x := range wrongSlots() {
		for _, until := range []int{math.MinInt, -1, 0, 1, 4, 7, last, never, math.MaxInt} {
			for k := range len(ends) + 1 {
				for _, with := range [][]api.Slot{nil, {at(0, 1, 1<<20, 1)}} {
					for _, h := range []api.Hold{till(until, append(slices.Clone(with), x.s)...), of(3, until, append([]api.Slot{x.s}, with...)...)} {
						a := ask{view: view, left: plenty, ends: slices.Insert(slices.Clone(ends), k, h), w: want(1, 1, 1)}
						refused(t, a, x.e)
						a.left, a.w.Members = api.Units{}, 16
						refused(t, a, x.e)
					}
				}
			}
		}
	}
}

// P12.1: units that are in two holds, or twice in one.
func TestHeldTwice(t *testing.T) {
	view := []api.Free{free(0, 0, 0, 0), free(0, 1, 0, 1<<20-4)}
	for _, x := range []struct {
		ends []api.Hold
		e    api.Errno
	}{
		{[]api.Hold{till(3, at(0, 0, 1, 0)), till(5, at(0, 0, 1, 0))}, api.ErrTwice},
		{[]api.Hold{till(5, at(0, 0, 3, 0)), till(3), till(3, at(0, 0, 6, 0))}, api.ErrTwice},
		{[]api.Hold{till(5, at(0, 0, 3, 0), at(0, 0, 2, 0))}, api.ErrTwice},
		{[]api.Hold{till(never, at(0, 0, 1<<63, 0)), till(never+1, at(0, 0, 1<<63, 0))}, api.ErrTwice},
		{[]api.Hold{till(5, at(0, 1, 3, 0)), till(3, at(0, 0, 3, 0))}, api.OK},
		{[]api.Hold{till(5, at(0, 1, 0, 2)), till(3, at(0, 1, 0, 2))}, api.OK},
		{[]api.Hold{till(5, at(0, 1, 0, 2)), till(3, at(0, 1, 0, 3))}, api.ErrOver},
		{[]api.Hold{till(5, at(0, 1, 0, 2), at(0, 1, 0, 2), at(0, 1, 0, 1))}, api.ErrOver},
		{[]api.Hold{till(never, at(0, 1, 0, 4)), till(-1, at(0, 1, 0, 1))}, api.ErrOver},
		{[]api.Hold{till(5, at(0, 0, 0, 1<<20)), till(3, at(0, 0, 0, 1))}, api.ErrOver},
		{[]api.Hold{till(5, at(0, 0, 0, 1<<20)), till(3, at(0, 0, 0, 0))}, api.OK},
		{[]api.Hold{till(5, at(0, 0, 0, 1)), till(3, at(0, 0, 0, math.MaxInt))}, api.ErrOver},
	} {
		a := ask{view: view, left: plenty, ends: x.ends, w: want(1, 0, 1)}
		if x.e == api.OK {
			comes(t, a, 0)
		} else {
			refused(t, a, x.e)
		}
	}
}

// P12.1: several errors at once: what is wrong with now and the want is told first, then the first slot that is wrong, as the holds came in, and not as they end.
func TestErrorOrder(t *testing.T) {
	view, ends := sound()
	for _, x := range wrongSlots() {
		wrong := append(slices.Clone(ends), till(4, x.s))
		for _, now := range []int{-1, last + 1, math.MinInt, math.MaxInt} {
			refused(t, ask{now: now, view: view, left: plenty, ends: wrong, w: want(1, 1, 1)}, api.ErrRange)
			refused(t, ask{now: now, view: view, left: plenty, ends: wrong, w: want(0, 1, 1)}, api.ErrRange)
		}
		for _, w := range wrongWants() {
			refused(t, ask{view: view, left: plenty, ends: wrong, w: w}, api.ErrRange)
		}
		for _, y := range wrongSlots() {
			for _, untils := range [][2]int{{4, 6}, {6, 4}, {4, 4}, {never, 0}, {-1, never}} {
				two := []api.Hold{ends[0], till(untils[0], x.s), ends[1], till(untils[1], y.s), ends[2]}
				refused(t, ask{now: 2, view: view, left: plenty, ends: two, w: want(1, 1, 1)}, x.e)
				one := []api.Hold{ends[0], till(untils[0], x.s, y.s), ends[1]}
				refused(t, ask{now: 2, view: view, left: plenty, ends: one, w: want(1, 1, 1)}, x.e)
			}
		}
	}
}

// P12.1: which of two holds is one too many hangs on the order in which they came in.
func TestErrorsByOrder(t *testing.T) {
	view := []api.Free{free(0, 0, 0, 1<<20-1), free(0, 1, 0, 0)}
	over, twice, both := till(2, at(0, 0, 1, 2)), till(5, at(0, 0, 1, 0)), till(9, at(0, 0, 2, 1))
	for _, x := range []struct {
		ends []api.Hold
		e    api.Errno
	}{
		{[]api.Hold{over, twice}, api.ErrOver}, {[]api.Hold{twice, over}, api.ErrTwice}, {[]api.Hold{both, over}, api.ErrOver}, {[]api.Hold{both, twice, over}, api.ErrTwice}, {[]api.Hold{both, both, over}, api.ErrTwice},
	} {
		refused(t, ask{view: view, left: plenty, ends: x.ends, w: want(1, 1, 0)}, x.e)
	}
}

// P12.1: drawn views and holds, asked tick by tick.
func TestEarliestAll(t *testing.T) {
	d := draws(0x9e3779b97f4a7c15)
	var atOnce, later, nevers, lasts int
	for range 20000 {
		a := d.ask()
		tick := a.plain(30)
		comes(t, a, tick)
		if is := promise.Fits(a.view, a.left, a.w); is != plainFits(a.view, a.left, a.w) {
			t.Fatalf("Fits(%v) = %v", a, is)
		}
		switch {
		case tick == a.now:
			atOnce++
		case tick == never:
			nevers++
		case tick > 30:
			lasts++
		default:
			later++
		}
		if t.Failed() {
			return
		}
	}
	if atOnce < 1000 || later < 1000 || nevers < 1000 || lasts < 50 {
		t.Error(atOnce, later, nevers, lasts)
	}
}

// P12.1: drawn holds, some of whose slots are wrong, are refused as they are slot by slot.
func TestEarliestAllWrong(t *testing.T) {
	d := draws(0xd1342543de82ef95)
	errors := map[api.Errno]int{}
	for range 20000 {
		a := d.ask()
		var slots []api.Slot
		for k := range a.ends {
			l := slices.Clone(a.ends[k].Slots)
			for n := range l {
				switch d.below(16) {
				case 0:
					l[n].Cpus = -1 - d.below(3)
				case 1:
					l[n].Spot.Domain = 3
				case 2:
					l[n].Mask |= 1 << (d.below(5) * 3)
				case 3:
					l[n].Cpus = 1<<20 - d.below(4)
				}
			}
			a.ends[k].Slots = l
			slots = append(slots, l...)
		}
		_, e := plainMore(a.view, slots)
		errors[e]++
		if e == api.OK {
			comes(t, a, a.plain(30))
		} else {
			refused(t, a, e)
		}
		a.now = -1
		refused(t, a, api.ErrRange)
		if t.Failed() {
			return
		}
	}
	for _, e := range []api.Errno{api.OK, api.ErrRange, api.ErrNone, api.ErrTwice, api.ErrOver} {
		if errors[e] < 500 {
			t.Error(e, errors[e])
		}
	}
}

// P12.2: at the tick told, the holds that end by it having ended, it fits; at now and at no end ahead of it does it.
func TestFitsThen(t *testing.T) {
	d := draws(0x2545f4914f6cdd1d)
	fitsAt := func(a ask, tick int) bool {
		view, left := a.view, a.left
		for _, h := range a.ends {
			if h.Until > tick {
				continue
			}
			var e api.Errno
			if view, e = pack.More(view, h.Slots); e != api.OK {
				t.Fatal(a, e)
			}
			left = withUnits(left, h, a.w.Queue)
		}
		return promise.Fits(view, left, a.w)
	}
	for range 5000 {
		a := d.ask()
		tick, e := a.earliest()
		if e != api.OK || tick < a.now || tick > never {
			t.Fatal(a, tick, e)
		}
		if tick < never && !fitsAt(a, tick) || tick > a.now && fitsAt(a, a.now) {
			t.Fatal(a, tick)
		}
		for _, h := range a.ends {
			for _, early := range []int{h.Until, h.Until - 1, h.Until + 1} {
				if early >= a.now && early < tick && fitsAt(a, early) {
					t.Fatal(a, tick, early)
				}
			}
		}
	}
}

// withUnits is the units left with those of a hold, if it is of the queue.
func withUnits(left api.Units, h api.Hold, queue int) api.Units {
	for _, s := range h.Slots {
		if h.Queue != queue {
			continue
		}
		left.Cpus += s.Cpus
		for m := s.Mask; m != 0; m &= m - 1 {
			left.Gpus++
		}
	}
	return left
}

// P12.2: with a hold less whose slots are free then, with one that ends earlier, or with more left, it is no later.
func TestNoLater(t *testing.T) {
	d := draws(0x853c49e6748fea9b)
	sooner := 0
	for range 4000 {
		a := d.ask()
		tick, _ := a.earliest()
		noLater := func(b ask) {
			n, e := b.earliest()
			if n > tick || e != api.OK {
				t.Fatalf("Earliest(%v) = %d, but Earliest(%v) = %d, %d", a, tick, b, n, e)
			}
			if n < tick {
				sooner++
			}
		}
		for k, h := range a.ends {
			b := a.clone()
			b.ends = slices.Delete(b.ends, k, k+1)
			b.view, _ = pack.More(b.view, h.Slots)
			b.left = withUnits(b.left, h, b.w.Queue)
			noLater(b)
			for _, less := range []int{1, 2, 5, 30, last} {
				b = a.clone()
				b.ends[k].Until -= min(less, max(0, b.ends[k].Until))
				noLater(b)
			}
		}
		for _, u := range []api.Units{{Gpus: 1}, {Cpus: 1}, {Gpus: 3, Cpus: 2}, {Gpus: 1 << 20, Cpus: 1 << 20}} {
			b := a
			b.left.Gpus, b.left.Cpus = min(most, b.left.Gpus+u.Gpus), min(most, b.left.Cpus+u.Cpus)
			noLater(b)
		}
		if b := a; len(b.ends) > 0 {
			b.ends = nil
			if n, _ := b.earliest(); n != b.now && n != never {
				t.Fatal(b, n)
			}
		}
	}
	if sooner < 1000 {
		t.Error(sooner)
	}
}

// P12.1: as many holds as there may be gangs, each with an end of its own, and all with one, in rows that rise, fall and jump.
func TestMany(t *testing.T) {
	var view []api.Free
	for k := range 64 {
		view = append(view, free(k/4, k%4, 0, 0))
	}
	const n = 4096
	jump := func(k int) int { return k * 1237 % n }
	for _, end := range []func(int) int{func(k int) int { return k }, func(k int) int { return n - 1 - k }, jump} {
		var ends []api.Hold
		for k := range n {
			// Whichever ends at the tick x has a unit of the spot x/64: so room grows tick by tick.
			x := end(k)
			ends = append(ends, of(x%2, x, at(x/64/4, x/64%4, 1<<(x%64), 1)))
		}
		comes(t, ask{view: view, left: plenty, ends: ends, w: want(1, 1, 1)}, 0)
		comes(t, ask{view: view, left: plenty, ends: ends, w: want(16, 1, 1)}, 15)
		comes(t, ask{view: view, left: plenty, ends: ends, w: want(16, 16, 1)}, 255)
		comes(t, ask{view: view, left: plenty, ends: ends, w: want(16, 0, 64)}, 1023)
		comes(t, ask{view: view, left: api.Units{}, ends: ends, w: want(16, 0, 64)}, 2046)
		comes(t, ask{view: view, left: api.Units{Gpus: -n / 2}, ends: ends, w: want(1, 1, 0)}, never)
		comes(t, ask{view: view, left: api.Units{Gpus: 1 - n/2}, ends: ends, w: want(1, 1, 0)}, n-2)
		comes(t, ask{view: view, left: api.Units{Gpus: 1 - n/2, Cpus: 5}, ends: ends, w: want(1, 0, 1)}, n-4)
		comes(t, ask{now: n + 5, view: view, left: plenty, ends: ends, w: want(16, 0, 64)}, n+5)
		comes(t, ask{view: view, left: plenty, ends: ends, w: want(1, 0, 65)}, never)
		for k := range ends {
			ends[k].Until = 77
		}
		comes(t, ask{view: view, left: plenty, ends: ends, w: want(16, 16, 1)}, 77)
	}
}

// Rule 3: views and holds that are handed in stay as they are, their spare room too, in calls that are right and in those that are refused.
func TestArgumentsAreLeft(t *testing.T) {
	// One list of slots, of which each hold has a part, and behind it there is room.
	slots := []api.Slot{at(0, 0, 0b10, 1), at(0, 1, 0b10, 1), at(0, 0, 0b100, 1), at(0, 1, 0b100, 2), at(0, 0, 1, 0), at(5, 5, 0, 0)}
	holds := []api.Hold{till(9, slots[:1]...), till(3, slots[1:2]...), till(6, slots[2:4]...), till(2, slots[4:5]...), till(1, slots[5:6]...)}
	roomy := []api.Free{free(0, 0, 1, 4), free(0, 1, 1, 4), free(7, 7, 5, 5)}
	was := ask{view: roomy, ends: holds}.clone()
	slotsWere := slices.Clone(slots)
	errors := map[api.Errno]int{}
	for n := range 6 {
		for now := -1; now < 12; now++ {
			for members := range 18 {
				_, e := promise.Earliest(now, roomy[:2], api.Units{Gpus: 5, Cpus: 30}, holds[:n], want(members, 1, 1))
				errors[e]++
				promise.Fits(roomy[:2], plenty, want(members, 1, 1))
			}
		}
	}
	if !was.same(ask{view: roomy, ends: holds}) || !slices.Equal(slots, slotsWere) {
		t.Error(roomy, holds, slots)
	}
	if errors[api.OK] == 0 || errors[api.ErrRange] == 0 || errors[api.ErrTwice] == 0 {
		t.Error(errors)
	}
}

// Rule 3: drawn views and holds, each with spare room, stay as they are too.
func TestDrawnAreLeft(t *testing.T) {
	d := draws(0x6a09e667f3bcc909)
	for range 2000 {
		a := d.ask().clone()
		for k := range a.ends {
			s := a.ends[k].Slots
			a.ends[k].Slots = append(s, at(8, 8, 5, 5))[:len(s)]
		}
		view := append(a.view, free(8, 8, 5, 5))
		was := a.clone()
		a.earliest()
		if !a.same(was) || view[len(a.view)] != free(8, 8, 5, 5) {
			t.Fatal(a, was)
		}
		for _, h := range a.ends {
			if h.Slots[:len(h.Slots)+1][len(h.Slots)] != at(8, 8, 5, 5) {
				t.Fatal(h)
			}
		}
	}
}

// Rule 4: the same calls answer the same, whatever was asked between, and whatever is done to what was handed in.
func TestSameAgain(t *testing.T) {
	d := draws(0xbb67ae8584caa73b)
	var asks []ask
	var ticks []int
	for range 300 {
		a := d.ask()
		tick, _ := a.earliest()
		asks, ticks = append(asks, a.clone()), append(ticks, tick)
		for k := range a.view {
			a.view[k] = free(9, 9, 0, 0)
		}
		for k := range a.ends {
			a.ends[k] = till(0)
		}
		a.earliest()
	}
	for k := len(asks) - 1; k >= 0; k-- {
		comes(t, asks[k], ticks[k])
		comes(t, asks[k].clone(), ticks[k])
	}
}

// Rule 5: of views and units left that the chapters shut out nothing is promised, but the calls end.
func TestOthersEnd(t *testing.T) {
	numbers := []int{math.MinInt, -most - 1, -1, 0, 1, 1<<20 + 1, most + 1, math.MaxInt}
	for _, x := range numbers {
		for _, y := range numbers {
			view := []api.Free{free(0, 0, 1, x), free(0, 0, 2, y), free(x, y, every, y)}
			left := api.Units{Gpus: x, Cpus: y}
			for _, z := range numbers {
				ends := []api.Hold{till(z, at(0, 0, 4, 1)), of(z, y, at(x, y, 0, 3)), till(x, at(0, 0, 8, z))}
				for n := range len(ends) + 1 {
					promise.Earliest(0, view, left, ends[:n], want(1, 1, 1))
					promise.Earliest(last, view, left, ends[:n], want(16, 16, 1024))
				}
				promise.Fits(view, left, want(2, 1, 1))
			}
		}
	}
}
