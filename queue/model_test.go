package queue_test

import (
	"math"
	"slices"
	"testing"

	"ensemble/api"
	"ensemble/queue"
)

const last = 1 << 30

// wait is a wait of an Id and a queue, told from all others of them by its Number.
func wait(id, q, number int) api.Wait {
	return api.Wait{Job: api.Job{Id: id, Queue: q}, Number: number}
}

// ranked is a wait with all that an order looks at.
func ranked(id, q, prio, since, number int) api.Wait {
	w := wait(id, q, number)
	w.Job.Prio, w.Since = prio, since
	return w
}

// wild is w with far numbers in all that queues don't look at.
func wild(w api.Wait) api.Wait {
	w.Job.Prio, w.Job.Runtime = math.MinInt, math.MaxInt
	w.Job.Shape = api.Shape{Gpus: -1, Cpus: math.MaxInt, Min: math.MinInt, Max: -7}
	w.Since, w.Number = math.MinInt, math.MaxInt
	return w
}

// plain is queues told plainly: all waits in the order in which they were added, whichever queue they are of.
type plain struct {
	rooms []int
	waits []api.Wait
}

// of is a queue's waits.
func (p *plain) of(q int) []api.Wait {
	var l []api.Wait
	for _, w := range p.waits {
		if w.Job.Queue == q {
			l = append(l, w)
		}
	}
	return l
}

func (p *plain) at(id int) int {
	return slices.IndexFunc(p.waits, func(w api.Wait) bool { return w.Job.Id == id })
}

func (p *plain) add(w api.Wait) api.Errno {
	switch {
	case w.Job.Queue < 0 || w.Job.Queue >= len(p.rooms):
		return api.ErrNone
	case p.at(w.Job.Id) >= 0:
		return api.ErrTwice
	case len(p.of(w.Job.Queue)) == p.rooms[w.Job.Queue]:
		return api.ErrFull
	}
	p.waits = append(p.waits, w)
	return api.OK
}

func (p *plain) get(id int) (api.Wait, api.Errno) {
	if k := p.at(id); k >= 0 {
		return p.waits[k], api.OK
	}
	return api.Wait{}, api.ErrNone
}

func (p *plain) remove(id int) (api.Wait, api.Errno) {
	w, e := p.get(id)
	if e == api.OK {
		k := p.at(id)
		p.waits = slices.Delete(p.waits, k, k+1)
	}
	return w, e
}

func (p *plain) all() []api.Wait {
	var l []api.Wait
	for q := range p.rooms {
		l = append(l, p.of(q)...)
	}
	return l
}

// plainRank is told of waits that aren't of a later tick than now.
func plainRank(w api.Wait, now, age int) int {
	n := w.Job.Prio
	for tick := w.Since + age; tick <= now; tick += age {
		n++
	}
	return n
}

func plainAhead(a, b api.Wait, now, age int) bool {
	x, y := plainRank(a, now, age), plainRank(b, now, age)
	switch {
	case x != y:
		return x > y
	case a.Number != b.Number:
		return a.Number < b.Number
	default:
		return a.Job.Id < b.Job.Id
	}
}

// sorted takes one by one the first wait of which none that is left is ahead.
func (p *plain) sorted(now, age int) []api.Wait {
	var l []api.Wait
	for left := p.all(); len(left) > 0; {
		first := 0
		for i := range left {
			if plainAhead(left[i], left[first], now, age) {
				first = i
			}
		}
		l = append(l, left[first])
		left = slices.Delete(left, first, first+1)
	}
	return l
}

// pair is queues, and what is plainly told of them.
type pair struct {
	*testing.T
	q *queue.Queues
	p *plain
}

func made(t *testing.T, rooms ...int) pair {
	t.Helper()
	q, e := queue.New(rooms...)
	if q == nil || e != api.OK {
		t.Fatalf("New(%v) = %v, %d", rooms, q, e)
	}
	x := pair{t, q, &plain{rooms: slices.Clone(rooms)}}
	x.same()
	return x
}

// add, remove and get ask both, and hold what is answered, and all that can be told behind it, against each other.
func (x pair) add(w api.Wait) api.Errno {
	x.Helper()
	want := x.p.add(w)
	if e := x.q.Add(w); e != want {
		x.Fatalf("Add(%v) = %d, want %d", w, e, want)
	}
	x.same(w.Job.Id)
	return want
}

func (x pair) remove(id int) (api.Wait, api.Errno) {
	x.Helper()
	want, wantE := x.p.remove(id)
	if w, e := x.q.Remove(id); w != want || e != wantE {
		x.Fatalf("Remove(%d) = %v, %d, want %v, %d", id, w, e, want, wantE)
	}
	x.same(id)
	return want, wantE
}

func (x pair) get(id int) (api.Wait, api.Errno) {
	x.Helper()
	want, wantE := x.p.get(id)
	if w, e := x.q.Get(id); w != want || e != wantE {
		x.Fatalf("Get(%d) = %v, %d, want %v, %d", id, w, e, want, wantE)
	}
	return want, wantE
}

// adds adds, and holds the error against one.
func (x pair) adds(w api.Wait, want api.Errno) {
	x.Helper()
	if e := x.add(w); e != want {
		x.Fatalf("Add(%v) = %d, want %d", w, e, want)
	}
}

// removes removes, and holds the wait against one.
func (x pair) removes(want api.Wait) {
	x.Helper()
	if w, e := x.remove(want.Job.Id); w != want || e != api.OK {
		x.Fatalf("Remove(%d) = %v, %d, want %v", want.Job.Id, w, e, want)
	}
}

// lacks holds an Id to be one of which there is no wait.
func (x pair) lacks(id int) {
	x.Helper()
	if w, e := x.get(id); w != (api.Wait{}) || e != api.ErrNone {
		x.Fatalf("Get(%d) = %v, %d", id, w, e)
	}
	if w, e := x.remove(id); w != (api.Wait{}) || e != api.ErrNone {
		x.Fatalf("Remove(%d) = %v, %d", id, w, e)
	}
}

// sorts holds Sorted against what is plainly so.
func (x pair) sorts(now, age int) {
	x.Helper()
	want := x.p.sorted(now, age)
	if l, e := x.q.Sorted(now, age); !slices.Equal(l, want) || e != api.OK {
		x.Fatalf("Sorted(%d, %d) = %v, %d, want %v", now, age, l, e, want)
	}
	x.same()
}

func (x pair) notSorted(now, age int) {
	x.Helper()
	if l, e := x.q.Sorted(now, age); len(l) != 0 || e != api.ErrRange {
		x.Fatalf("Sorted(%d, %d) = %v, %d", now, age, l, e)
	}
	x.same()
}

// same holds all that queues tell, but Sorted, against what is plainly so; of Ids too that may not be there.
func (x pair) same(ids ...int) {
	x.Helper()
	all := x.q.All()
	if want := x.p.all(); !slices.Equal(all, want) {
		x.Fatalf("All() = %v, want %v", all, want)
	}
	seen := map[int]bool{}
	for _, w := range all {
		if seen[w.Job.Id] {
			x.Fatalf("All() = %v: %d is there twice", all, w.Job.Id)
		}
		seen[w.Job.Id] = true
		ids = append(ids, w.Job.Id)
	}
	for _, id := range ids {
		x.get(id)
	}
	sum := 0
	for q, room := range x.p.rooms {
		n, more := x.q.Len(q), x.q.Room(q)
		if n != len(x.p.of(q)) || n+more != room {
			x.Fatalf("Len(%d) = %d, Room(%d) = %d: of %d, with %v", q, n, q, more, room, x.p.of(q))
		}
		sum += n
	}
	if sum != len(all) {
		x.Fatalf("All() = %v, but there are %d", all, sum)
	}
	for _, q := range x.wrongQueues() {
		if n, more := x.q.Len(q), x.q.Room(q); n != 0 || more != 0 {
			x.Fatalf("Len(%d) = %d, Room(%d) = %d, but there is none", q, n, q, more)
		}
	}
}

// wrongQueues are numbers of which there is no queue.
func (x pair) wrongQueues() []int {
	n := len(x.p.rooms)
	return []int{-1, n, -2, n + 1, -n, -n - 1, 100, 1 << 32, -1 << 32, 1<<32 + n - 1, math.MinInt, math.MinInt + 1, math.MaxInt - 1, math.MaxInt}
}

// wrongRooms are rooms that may not be.
func wrongRooms() []int {
	return []int{-1, 17, -2, 18, -16, 256, 1 << 32, -1 << 32, 1<<32 + 1, math.MinInt, math.MinInt + 1, math.MaxInt - 1, math.MaxInt}
}

// farIds are Ids of each kind: whatever they are, they may be.
func farIds() []int {
	return []int{math.MinInt, math.MinInt + 1, -1 << 32, -65536, -7, -2, -1, 0, 1, 2, 7, 65535, 65536, 1 << 32, 1<<32 + 7, math.MaxInt - 1, math.MaxInt}
}

// draws is a fixed row of numbers.
type draws uint64

func (d *draws) below(n int) int {
	*d ^= *d << 13
	*d ^= *d >> 7
	*d ^= *d << 17
	return int(uint64(*d>>11) % uint64(n))
}
