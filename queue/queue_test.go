package queue_test

import (
	"math"
	"slices"
	"testing"

	"ensemble/api"
	"ensemble/order"
	"ensemble/queue"
)

// refused holds what New answers of rooms to be the error alone.
func refused(t *testing.T, rooms ...int) {
	t.Helper()
	if q, e := queue.New(rooms...); q != nil || e != api.ErrRange {
		t.Errorf("New(%v) = %v, %d", rooms, q, e)
	}
}

// rooms are so many, all alike.
func rooms(n, room int) []int { return slices.Repeat([]int{room}, n) }

// The chapter's example.
func TestExample(t *testing.T) {
	x := made(t, 1, 2)
	x.adds(wait(5, 0, 1), api.OK)
	x.adds(wait(6, 0, 2), api.ErrFull)
	x.adds(wait(5, 1, 3), api.ErrTwice)
	if l := x.q.All(); !slices.Equal(l, []api.Wait{wait(5, 0, 1)}) {
		t.Error(l)
	}
}

// P10.1: 1 to 8 rooms, each 0 to 16; queues without waits.
func TestNew(t *testing.T) {
	for n := 1; n <= 8; n++ {
		for room := 0; room <= 16; room++ {
			x := made(t, rooms(n, room)...)
			if l := x.q.All(); len(l) != 0 {
				t.Fatal(n, room, l)
			}
			for q := range n {
				if x.q.Len(q) != 0 || x.q.Room(q) != room {
					t.Fatal(n, room, q, x.q.Len(q), x.q.Room(q))
				}
			}
			for _, id := range farIds() {
				x.lacks(id)
			}
			x.sorts(0, 1)
		}
	}
	x := made(t, 0, 16, 1, 15, 3, 0, 16, 1)
	for q, room := range []int{0, 16, 1, 15, 3, 0, 16, 1} {
		if n := x.q.Room(q); n != room {
			t.Errorf("Room(%d) = %d, want %d", q, n, room)
		}
	}
}

// P10.1: too few and too many rooms, of each kind.
func TestNewWrongMany(t *testing.T) {
	refused(t)
	refused(t, []int{}...)
	for _, n := range []int{9, 10, 16, 17, 64, 256, 257, 65537} {
		for _, room := range []int{0, 1, 16, -1, 17} {
			refused(t, rooms(n, room)...)
		}
	}
}

// P10.1: a wrong room by itself, and at the front, in the middle and at the end of others.
func TestNewWrongRooms(t *testing.T) {
	for _, room := range wrongRooms() {
		for n := 1; n <= 8; n++ {
			for at := range n {
				for _, other := range []int{0, 1, 16} {
					l := rooms(n, other)
					l[at] = room
					refused(t, l...)
				}
			}
			refused(t, rooms(n, room)...)
		}
	}
	// Together they are rooms that may be.
	refused(t, -1, 17)
	refused(t, 17, -1)
	refused(t, 1, -1, 1)
}

// P10.1, P10.2: a queue of each room is filled, the first among some, in their middle and the last; one short of full, full, and one more.
func TestFill(t *testing.T) {
	for room := 0; room <= 16; room++ {
		for n := 1; n <= 8; n++ {
			for at := range n {
				l := rooms(n, 16)
				l[at] = room
				x := made(t, l...)
				for i := range room {
					if x.q.Len(at) != i || x.q.Room(at) != room-i {
						t.Fatal(room, at, i, x.q.Len(at), x.q.Room(at))
					}
					x.adds(wait(100-i, at, i), api.OK)
				}
				x.adds(wait(7, at, 99), api.ErrFull)
				x.adds(wait(-7, at, 99), api.ErrFull)
				if x.q.Len(at) != room || x.q.Room(at) != 0 {
					t.Fatal(room, at, x.q.Len(at), x.q.Room(at))
				}
				for i := range room {
					if w, e := x.q.Get(100 - i); w != wait(100-i, at, i) || e != api.OK {
						t.Fatal(room, at, i, w, e)
					}
				}
			}
		}
	}
}

// P10.1, P10.2: all that there can be: 8 queues, each with room for 16, filled in turn, emptied from both ends, and filled again.
func TestFillAll(t *testing.T) {
	x := made(t, rooms(8, 16)...)
	for i := range 8 * 16 {
		x.adds(wait(1000-i, i%8, i), api.OK)
	}
	for q := range 8 {
		x.adds(wait(5, q, 0), api.ErrFull)
	}
	l := x.q.All()
	for i, w := range l {
		// Queue i/16 got each eighth one.
		if number := i%16*8 + i/16; w != wait(1000-number, i/16, number) {
			t.Fatal(i, w)
		}
	}
	for i := range len(l) / 2 {
		x.removes(l[i])
		x.removes(l[len(l)-1-i])
	}
	for _, w := range l {
		x.lacks(w.Job.Id)
	}
	slices.Reverse(l)
	for _, w := range l {
		x.adds(w, api.OK)
	}
	for q := range 8 {
		x.adds(wait(5, q, 0), api.ErrFull)
	}
}

// P10.1: Ids of each kind; whatever else a wait has, it is told as it was added.
func TestFarIds(t *testing.T) {
	ids := farIds()
	x := made(t, 16, 0, 16)
	for i, id := range ids {
		x.adds(wild(wait(id, i%2*2, i)), api.OK)
		x.adds(wait(id, 0, 5), api.ErrTwice)
		x.adds(wait(id, 2, 5), api.ErrTwice)
	}
	for _, id := range []int{math.MinInt + 2, -1 << 31, -65535, -3, 3, 6, 8, 65534, 65537, 1 << 31, 1<<32 - 1, 1<<32 + 1, math.MaxInt - 2} {
		x.lacks(id)
	}
	for i, id := range ids {
		if w, e := x.q.Get(id); w != wild(wait(id, i%2*2, i)) || e != api.OK {
			t.Fatal(id, w, e)
		}
		x.removes(wild(wait(id, i%2*2, i)))
		x.lacks(id)
	}
}

// P10.1: queues that aren't there, of queues that are full, that aren't, and that have none; nothing changes.
func TestWrongQueues(t *testing.T) {
	for n := 1; n <= 8; n++ {
		for _, room := range []int{0, 1, 3} {
			x := made(t, rooms(n, room)...)
			if room > 0 {
				x.adds(wait(7, n-1, 1), api.OK)
			}
			for _, q := range x.wrongQueues() {
				for _, id := range farIds() {
					x.adds(wait(id, q, 2), api.ErrNone)
					x.adds(wild(wait(id, q, 2)), api.ErrNone)
				}
			}
		}
	}
}

// P10.1: ErrNone is ahead of ErrTwice, and that of ErrFull.
func TestErrorOrder(t *testing.T) {
	x := made(t, 1, 0, 2)
	x.adds(wait(5, 0, 1), api.OK)
	x.adds(wait(6, 2, 2), api.OK)
	for _, step := range []struct {
		id, queue int
		want      api.Errno
	}{
		// No queue, of an Id that is there.
		{5, -1, api.ErrNone}, {5, 3, api.ErrNone}, {6, math.MaxInt, api.ErrNone}, {6, math.MinInt, api.ErrNone},
		// An Id that is there, in its queue and in others; full ones, one with room for none, one that isn't full.
		{5, 0, api.ErrTwice}, {5, 1, api.ErrTwice}, {5, 2, api.ErrTwice}, {6, 0, api.ErrTwice}, {6, 1, api.ErrTwice}, {6, 2, api.ErrTwice},
		// An Id that isn't there.
		{7, 0, api.ErrFull}, {7, 1, api.ErrFull}, {7, -1, api.ErrNone}, {7, 3, api.ErrNone}, {7, 2, api.OK},
		{8, 2, api.ErrFull}, {7, 2, api.ErrTwice}, {7, 0, api.ErrTwice},
	} {
		x.adds(wait(step.id, step.queue, 9), step.want)
	}
}

// P10.1: a wait is looked for in all queues, wherever it is among them, and others are empty, full or have none.
func TestElsewhere(t *testing.T) {
	for n := 1; n <= 8; n++ {
		for at := range n {
			for _, room := range []int{0, 1, 16} {
				l := rooms(n, room)
				l[at] = 2
				x := made(t, l...)
				x.adds(wait(5, at, 1), api.OK)
				x.adds(wait(6, at, 2), api.OK)
				for q := range n {
					x.adds(wait(5, q, 3), api.ErrTwice)
					x.adds(wait(6, q, 3), api.ErrTwice)
				}
				x.lacks(7)
				x.removes(wait(6, at, 2))
				x.lacks(6)
				x.removes(wait(5, at, 1))
				x.lacks(5)
			}
		}
	}
}

// three is queues with room for six, of which the one in the middle has waits; others have some, if they are asked for.
func three(t *testing.T, waits int, others bool) pair {
	t.Helper()
	x := made(t, 6, 6, 6)
	for i := range waits {
		x.adds(wait(10+i, 1, i), api.OK)
		if others {
			x.adds(wait(20+i, 0, i), api.OK)
			x.adds(wait(30+i, 2, i), api.OK)
		}
	}
	return x
}

// P10.1, P10.2: a wait is removed at each place of its queue; the others stay as they stood, and it isn't there any more.
func TestRemove(t *testing.T) {
	for _, others := range []bool{false, true} {
		for waits := 1; waits <= 6; waits++ {
			for at := range waits {
				x := three(t, waits, others)
				x.removes(wait(10+at, 1, at))
				x.lacks(10 + at)
				if x.q.Len(1) != waits-1 || x.q.Room(1) != 7-waits {
					t.Fatal(waits, at, x.q.Len(1), x.q.Room(1))
				}
				for i := range waits {
					if _, e := x.q.Get(10 + i); (e == api.ErrNone) != (i == at) {
						t.Fatal(waits, at, i, e)
					}
				}
			}
		}
	}
}

// P10.1, P10.2: what was removed and is added anew stands behind the others, in its queue or in another one, as it is added then.
func TestAddAnew(t *testing.T) {
	for waits := 1; waits <= 6; waits++ {
		for at := range waits {
			for q := range 3 {
				x := three(t, waits, waits < 6)
				x.removes(wait(10+at, 1, at))
				x.adds(wait(10+at, q, 77), api.OK)
				l := x.p.of(q)
				if l[len(l)-1] != wait(10+at, q, 77) {
					t.Fatal(l)
				}
				for k := range 3 {
					x.adds(wait(10+at, k, 78), api.ErrTwice)
				}
				x.removes(wait(10+at, q, 77))
				x.lacks(10 + at)
				x.adds(wait(10+at, 1, at), api.OK)
			}
		}
	}
}

// P10.1: a full queue is emptied from the front, from the end, or mixed up, and filled again; no room is used up.
func TestFillAgain(t *testing.T) {
	for _, room := range []int{1, 2, 3, 15, 16} {
		x := made(t, 2, room, 2)
		x.adds(wait(-1, 0, 0), api.OK)
		x.adds(wait(-2, 2, 0), api.OK)
		d := draws(room)
		for turn := range 9 {
			for i := range room {
				x.adds(wait(turn*room+i, 1, i), api.OK)
			}
			x.adds(wait(-3, 1, 0), api.ErrFull)
			for n := room; n > 0; n-- {
				at := [...]int{0, n - 1, d.below(n)}[turn%3]
				x.removes(x.p.of(1)[at])
				if x.q.Room(1) != room-n+1 {
					t.Fatal(room, turn, n, x.q.Room(1))
				}
			}
		}
	}
}

// P10.1: a full queue in which one wait after another makes room for the next one, often.
func TestThrough(t *testing.T) {
	x := made(t, 0, 4)
	for i := range 300 {
		x.adds(wait(i, 1, i), api.OK)
		if i < 3 {
			continue
		}
		x.adds(wait(-5, 1, i), api.ErrFull)
		x.removes(wait(i-3, 1, i-3))
		x.lacks(i - 3)
	}
}

// P10.2: of queues of which each set of some is empty, All tells those that aren't, one behind the other.
func TestSomeEmpty(t *testing.T) {
	for n := 1; n <= 8; n++ {
		for set := range 1 << n {
			x := made(t, rooms(n, 3)...)
			var want []api.Wait
			for q := n - 1; q >= 0; q-- {
				if set>>q&1 == 1 {
					l := []api.Wait{wait(50+q, q, 9), wait(20-q, q, 3)}
					x.adds(l[0], api.OK)
					x.adds(l[1], api.OK)
					want = append(l, want...)
				}
			}
			if l := x.q.All(); !slices.Equal(l, want) {
				t.Fatal(n, set, l, want)
			}
			x.sorts(4, 2)
		}
	}
}

// P10.2: All tells waits in the order in which they were added, whatever their Ids, Numbers and ranks.
func TestAll(t *testing.T) {
	x := made(t, 4, 4)
	l := []api.Wait{ranked(9, 1, 0, 8, 9), ranked(3, 0, 1, 9, 8), ranked(2, 0, 15, 0, 7), ranked(8, 1, 15, 0, 1), ranked(4, 0, 0, 0, 5), ranked(1, 1, 7, 3, 5)}
	for _, w := range l {
		x.adds(w, api.OK)
	}
	want := []api.Wait{l[1], l[2], l[4], l[0], l[3], l[5]}
	if all := x.q.All(); !slices.Equal(all, want) {
		t.Errorf("%v, want %v", all, want)
	}
}

// P10.2: Sorted of no waits, of one, and of many in several queues: by ranks, by Numbers, by Ids.
func TestSorted(t *testing.T) {
	x := made(t, 3, 3, 3)
	x.sorts(0, 1)
	x.sorts(last, 1024)
	x.adds(ranked(7, 1, 2, 3, 1), api.OK)
	x.sorts(3, 4)
	x.sorts(100, 1)
	for _, w := range []api.Wait{
		// A rank that is higher from 5 on.
		ranked(4, 0, 3, 1, 2),
		// A rank that is like the first one's, from 3 on, and a lower Number.
		ranked(9, 2, 1, 0, 0),
		// Alike in rank and Number.
		ranked(8, 0, 2, 3, 1), ranked(2, 2, 2, 3, 1), ranked(5, 1, 2, 3, 1),
	} {
		x.adds(w, api.OK)
	}
	for now := 3; now < 40; now++ {
		for _, age := range []int{1, 2, 3, 4, 64, 1024} {
			x.sorts(now, age)
		}
	}
	want := []api.Wait{ranked(4, 0, 3, 1, 2), ranked(9, 2, 1, 0, 0), ranked(2, 2, 2, 3, 1), ranked(5, 1, 2, 3, 1), ranked(7, 1, 2, 3, 1), ranked(8, 0, 2, 3, 1)}
	if l, e := x.q.Sorted(3, 3); !slices.Equal(l, want) || e != api.OK {
		t.Error(l, e)
	}
}

// P10.2: all that there can be, with ranks that are alike and Numbers and Ids that aren't in the order of the queues.
func TestSortedMany(t *testing.T) {
	for row := range 20 {
		d := draws(row + 1)
		x := made(t, rooms(8, 16)...)
		for i := range 8 * 16 {
			x.adds(ranked((i*77+row)%128, i%8, d.below(3), d.below(12), d.below(4)), api.OK)
		}
		for range 5 {
			now, age := 11+d.below(50), 1+d.below(20)
			x.sorts(now, age)
			// It is layer 9's order, ahead of a wait's Since too.
			for _, tick := range []int{0, 5, now, last} {
				want, f := order.Sort(x.p.all(), tick, age)
				if l, e := x.q.Sorted(tick, age); !slices.Equal(l, want) || e != api.OK || f != api.OK {
					t.Fatal(row, tick, age, l, e, f)
				}
			}
		}
	}
}

// P10.2: now, age and waits that Sort refuses, of no waits too; nothing changes, and without the wrong wait they are sorted.
func TestSortedWrong(t *testing.T) {
	x := made(t, 1, 3, 1)
	for range 2 {
		for _, now := range []int{-1, last + 1, -2, -last, 1 << 32, math.MinInt, math.MaxInt} {
			x.notSorted(now, 4)
			x.notSorted(now, 0)
		}
		for _, age := range []int{0, -1, 1025, -4, 1 << 32, math.MinInt, math.MaxInt} {
			x.notSorted(9, age)
			x.notSorted(-1, age)
		}
		for _, w := range []api.Wait{ranked(5, 0, -1, 0, 1), ranked(5, 1, 16, 0, 1), ranked(5, 2, 3, -1, 1), ranked(5, 1, 3, last+1, 1), wild(wait(5, 0, 1)), wild(wait(5, 2, 1)), ranked(5, 0, math.MaxInt, 0, 1), ranked(5, 1, 0, math.MinInt, 1)} {
			x.adds(w, api.OK)
			x.notSorted(9, 4)
			x.removes(w)
			x.sorts(9, 4)
		}
		if x.q.Len(1) == 0 {
			x.adds(ranked(8, 1, 2, 3, 4), api.OK)
			x.adds(ranked(6, 1, 4, 3, 2), api.OK)
		}
	}
}

// Rule 3: rooms that are handed in are neither changed nor kept, their spare room neither.
func TestHandedIn(t *testing.T) {
	l := []int{2, 0, 16, 5, 6, 7}
	x := made(t, l[:3]...)
	x.adds(wait(5, 0, 1), api.OK)
	x.adds(wait(6, 2, 1), api.OK)
	if !slices.Equal(l, []int{2, 0, 16, 5, 6, 7}) {
		t.Error(l)
	}
	for i := range l {
		l[i] = 1
	}
	x.same()
	x.adds(wait(7, 1, 1), api.ErrFull)
	x.adds(wait(7, 0, 1), api.OK)
	x.adds(wait(8, 0, 1), api.ErrFull)
	for i := range 15 {
		x.adds(wait(20+i, 2, 1), api.OK)
	}
	x.adds(wait(8, 2, 1), api.ErrFull)
	l = []int{3, -1, 5}
	refused(t, l...)
	if !slices.Equal(l, []int{3, -1, 5}) {
		t.Error(l)
	}
}

// write writes into all of a list, and appends to it, in its spare room and beyond.
func write(l []api.Wait) {
	for i := range l[:cap(l)] {
		l[:cap(l)][i] = wait(-9, -9, -9)
	}
	for range 200 {
		l = append(l, wait(-8, -8, -8))
	}
}

// some are queues with room for five, each with so many waits.
func some(t *testing.T, waits ...int) pair {
	t.Helper()
	x := made(t, rooms(len(waits), 5)...)
	for q, n := range waits {
		for i := range n {
			x.adds(wait(q*10+i, q, 10-i), api.OK)
		}
	}
	return x
}

// Rule 3: what is told can be written to and appended to, and calls that follow don't change it.
func TestHandedOut(t *testing.T) {
	for _, waits := range [][]int{{0}, {1}, {3}, {5}, {0, 0, 0}, {3, 0, 0}, {0, 3, 0}, {0, 0, 3}, {5, 0, 0}, {0, 5, 0}, {0, 0, 5}, {3, 3, 3}, {1, 3, 5}, {5, 5, 5}} {
		x := some(t, waits...)
		all, other := x.q.All(), x.q.All()
		sorted, e := x.q.Sorted(9, 4)
		again, f := x.q.Sorted(9, 4)
		if e != api.OK || f != api.OK {
			t.Fatal(e, f)
		}
		write(all)
		write(sorted)
		x.same()
		x.sorts(9, 4)
		if !slices.Equal(other, x.p.all()) || !slices.Equal(again, x.p.sorted(9, 4)) {
			t.Fatal(waits, other, again)
		}
		keep, keepSorted := slices.Clone(other), slices.Clone(again)
		for _, w := range keep {
			x.removes(w)
			x.adds(wild(w), api.OK)
		}
		if !slices.Equal(other, keep) || !slices.Equal(again, keepSorted) {
			t.Fatal(waits, other, again)
		}
	}
}

// Rule 4: two Queues have nothing in common.
func TestTwo(t *testing.T) {
	l := []int{2, 3}
	x, y := made(t, l...), made(t, l...)
	x.adds(wait(5, 0, 1), api.OK)
	y.same(5)
	y.lacks(5)
	y.adds(wait(5, 1, 2), api.OK)
	y.adds(wait(6, 1, 3), api.OK)
	x.same(5, 6)
	x.adds(wait(6, 0, 4), api.OK)
	x.adds(wait(7, 0, 4), api.ErrFull)
	y.adds(wait(7, 0, 4), api.OK)
	x.removes(wait(6, 0, 4))
	y.same(6)
	y.removes(wait(5, 1, 2))
	x.same(5)
	x.sorts(9, 4)
	y.sorts(9, 4)
}

// P10.1, P10.2: long rows of calls of all kinds are as they are plainly told, each behind each.
func TestRows(t *testing.T) {
	for row := range 150 {
		d := draws(row + 1)
		l := make([]int, 1+d.below(8))
		for i := range l {
			l[i] = []int{0, 1, 2, 3, 16, 1 + d.below(16)}[d.below(6)]
		}
		x := made(t, l...)
		ids := 2 + d.below(60)
		for step := range 300 {
			id, q := d.below(ids)-ids/3, d.below(len(l)+2)-1
			switch d.below(9) {
			case 0, 1, 2, 3, 4:
				x.add(ranked(id, q, d.below(16), d.below(step+1), d.below(9)))
			case 5, 6:
				x.remove(id)
			case 7:
				x.sorts(step+d.below(99), 1+d.below(64))
			default:
				x.notSorted(-1, 4)
				x.notSorted(step, 0)
			}
		}
		for _, w := range x.p.all() {
			x.removes(w)
		}
		x.sorts(0, 1)
	}
}

// Rule 4: the same calls, told twice, answer the same, whatever other Queues were told between them.
func TestSameAgain(t *testing.T) {
	tell := func(between func()) []any {
		q, e := queue.New(3, 0, 2)
		told := []any{e}
		for i := range 40 {
			between()
			w, f := q.Remove(i * 5 % 7)
			told = append(told, w, f, q.Add(ranked(i%7, i%5-1, i%16, 0, i%3)), q.Len(i%4), q.Room(i%4))
			sorted, g := q.Sorted(i, 3)
			told = append(told, g)
			for _, l := range [][]api.Wait{q.All(), sorted} {
				for _, w := range l {
					told = append(told, w)
				}
			}
		}
		return told
	}
	first := tell(func() {})
	other := made(t, 1, 2)
	n := 0
	again := tell(func() {
		n++
		other.add(wait(n%3, n%2, n))
		other.remove(n % 5)
	})
	if !slices.Equal(first, again) {
		t.Error(first, again)
	}
}
