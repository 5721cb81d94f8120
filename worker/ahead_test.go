package worker_test

import (
	"math"
	"slices"
	"testing"

	"ensemble/api"
	"ensemble/elastic"
	"ensemble/pack"
	"ensemble/worker"
)

// beside is a head of five Gpus of queue 1, promised 7, at 2, with a timeout of 1: four are free, two are held till 7, and one more till 10. So till 7 all four may go, and longer only one.
func beside(behind []api.Job, running ...api.Job) api.Look {
	return api.Look{
		Now: 2, Head: 5, Promise: 7, Timeout: 1, View: []api.Free{free(0, 0b1111)}, Left: []api.Units{plenty, {Gpus: 9, Cpus: 99}, plenty},
		Ends:    []api.Hold{hold(8, 2, 10, at(0, 0b1000000)...), hold(9, 0, 7, at(0, 0b110000)...)},
		Waits:   waits(append([]api.Job{gang(5, 1, 5, 9, 4)}, behind...)...),
		Running: runs(running...),
	}
}

// P15.1: behind a head that doesn't fit: none, one, and several that may go ahead of it, the first one of these safe and not safe; wherever the head stands.
func TestBehindHead(t *testing.T) {
	// Runtime 4 ends in time; of what runs longer one member may go.
	in := func(id int) api.Job { return gang(id, 0, 2, 9, 4) }
	one := func(id int) api.Job { return gang(id, 2, 1, 9, 5) }
	off := func(id int) api.Job { return gang(id, 0, 2, 9, 5) }
	big := func(id int) api.Job { return gang(id, 0, 5, 9, 0) }
	for _, x := range []struct {
		behind []api.Job
		id     int
		slots  uint64
	}{
		{nil, 0, 0}, {[]api.Job{in(1)}, 1, 0b1111}, {[]api.Job{one(1)}, 1, 0b1}, {[]api.Job{off(1)}, 0, 0}, {[]api.Job{big(1)}, 0, 0},
		{[]api.Job{in(1), in(2)}, 1, 0b1111}, {[]api.Job{in(2), in(1)}, 2, 0b1111}, {[]api.Job{one(1), in(2)}, 1, 0b1}, {[]api.Job{in(1), one(2)}, 1, 0b1111},
		{[]api.Job{off(1), in(2)}, 2, 0b1111}, {[]api.Job{off(1), one(2), in(3)}, 2, 0b1}, {[]api.Job{off(3), big(2), in(1), one(4)}, 1, 0b1111}, {[]api.Job{off(1), off(2), off(3), big(4)}, 0, 0},
		{[]api.Job{in(1), off(2)}, 1, 0b1111}, {[]api.Job{big(1), off(2), off(3), one(4), off(6)}, 4, 0b1}, {[]api.Job{off(1), big(2), off(3), big(4), in(6)}, 6, 0b1111},
	} {
		for k := range len(x.behind) + 1 {
			l := beside(nil)
			l.Waits = waits(slices.Insert(slices.Clone(x.behind), k, gang(5, 1, 5, 9, 4))...)
			if x.id == 0 {
				rests(t, l)
				// Only then the one that runs gets more: its hold ends by the promise.
				l.Running = runs(gang(9, 0, 1, 3, 1))
				chooses(t, l, api.Grow, 9, at(0, 0b1)...)
				continue
			}
			chooses(t, l, api.Fill, x.id, at(0, x.slots)...)
			l.Running = runs(gang(9, 0, 1, 3, 1))
			chooses(t, l, api.Fill, x.id, at(0, x.slots)...)
		}
	}
}

// P15.1: what is filled is held till now, the timeout and its Runtime, together: to the tick.
func TestFilledTill(t *testing.T) {
	for now := range 9 {
		for timeout := range 9 {
			for runtime := range 9 {
				l := beside([]api.Job{gang(1, 0, 2, 4, runtime)})
				l.Now, l.Timeout = now, timeout
				if now+timeout+runtime <= max(7, now) {
					chooses(t, l, api.Fill, 1, at(0, 0b1111)...)
				} else {
					rests(t, l)
				}
			}
		}
	}
	// With a promise of 2^30, at 2^30, and all three of 2^30; Never lets all go.
	for _, x := range []struct{ now, timeout, runtime, promised, members int }{
		{last, 0, 0, last, 4}, {last, 0, 1, last, 1}, {last, 1, 0, last, 1}, {last, last, last, last, 1}, {0, 0, last, last, 4}, {0, last, 0, last, 4}, {0, last, last, last, 1}, {0, last, 1, last, 1}, {last, last, last, never, 4}, {0, 0, 0, 0, 4}, {0, 0, 1, 0, 1},
	} {
		l := beside([]api.Job{gang(1, 0, 1, 4, x.runtime)})
		l.Now, l.Timeout, l.Promise = x.now, x.timeout, x.promised
		// Nothing of what is held ends between.
		l.Ends[0].Until, l.Ends[1].Until = never, x.now
		chooses(t, l, api.Fill, 1, at(0, 1<<x.members-1)...)
		l.Waits[1].Job.Shape.Min = 4
		if x.members == 4 {
			chooses(t, l, api.Fill, 1, at(0, 0b1111)...)
		} else {
			rests(t, l)
		}
	}
}

// P15.1: a head that doesn't fit for want of room, of units left, and of a queue; beside one whose queue isn't there nobody goes.
func TestHeadThatDoesNotFit(t *testing.T) {
	behind := []api.Job{gang(1, 0, 1, 9, 4)}
	check := func(turn func(l *api.Look), do, id int, slots uint64) {
		t.Helper()
		l := beside(behind)
		turn(&l)
		chooses(t, l, do, id, at(0, slots)...)
		// One that runs, and whose hold ends by the promise, may grow where another one may be filled.
		l.Waits, l.Running = l.Waits[:1], runs(gang(9, 0, 1, 9, 4))
		if do == api.Fill {
			do, id, slots = api.Grow, 9, slots&-slots
		}
		chooses(t, l, do, id, at(0, slots)...)
	}
	check(func(l *api.Look) {}, api.Fill, 1, 0b1111)
	check(func(l *api.Look) { l.View[0].Mask = 0b11110000111 }, api.Head, 5, 0b11110000111)
	check(func(l *api.Look) { l.View[0].Mask = 0b10000111 }, api.Fill, 1, 0b10000111)
	enough := func(l *api.Look) { l.View[0].Mask = 0b11110001111 }
	check(enough, api.Head, 5, 0b11110001111)
	for _, left := range []int{-far, -1, 0, 1, 4} {
		check(func(l *api.Look) { enough(l); l.Left[1].Gpus, l.Ends[1].Queue, l.Promise = left, 1, never }, api.Fill, 1, 0b11110001111)
		check(func(l *api.Look) { enough(l); l.Left[1].Gpus = left }, api.Rest, 0, 0)
		check(func(l *api.Look) { enough(l); l.Left[1].Cpus = min(-1, left) }, api.Rest, 0, 0)
	}
	check(func(l *api.Look) { enough(l); l.Left[1] = api.Units{Gpus: 5} }, api.Head, 5, 0b10001111)
	for _, q := range wrongQueues(3) {
		check(func(l *api.Look) { enough(l); l.Waits[0].Job.Queue = q }, api.Rest, 0, 0)
		check(func(l *api.Look) { enough(l); l.Waits[0].Job.Queue, l.Promise = q, never }, api.Rest, 0, 0)
	}
	for _, s := range wrongShapes() {
		check(func(l *api.Look) { enough(l); l.Waits[0].Job.Shape, l.Promise = s, never }, api.Rest, 0, 0)
	}
}

// P15.1: beside a head who grows is asked one by one: whose hold ends too late doesn't, the first one behind it whose hold doesn't does.
func TestGrowBehindHead(t *testing.T) {
	late, in := gang(8, 0, 1, 9, 1), gang(9, 0, 1, 9, 1)
	for _, x := range []struct {
		running []api.Job
		id      int
	}{
		{nil, 0}, {[]api.Job{late}, 0}, {[]api.Job{in}, 9}, {[]api.Job{late, in}, 9}, {[]api.Job{in, late}, 9}, {[]api.Job{late, late}, 0}, {[]api.Job{late, gang(7, 0, 1, 9, 1), in, gang(3, 0, 1, 9, 1)}, 9},
		{[]api.Job{late, gang(3, 0, 1, 9, 1), in}, 3}, {[]api.Job{gang(9, 0, 1, 2, 1), late, gang(3, 0, 1, 9, 1)}, 3}, {[]api.Job{gang(9, 0, 3, 2, 1)}, 0}, {[]api.Job{gang(9, 3, 1, 9, 1), late}, 0},
	} {
		l := beside([]api.Job{gang(1, 0, 2, 9, 5)}, x.running...)
		// Three are free, and with the two that come back by the promise there are just as many as the head needs.
		l.View[0].Mask = 0b1110
		l.Ends = append(l.Ends, hold(3, 0, 6))
		if x.id == 0 {
			rests(t, l)
		} else {
			chooses(t, l, api.Grow, x.id, at(0, 0b10)...)
		}
	}
}

// P15.2: a head that fits is chosen ahead of all, in looks that are drawn; and none else is, whose Id is the head's.
func TestHeadIsAheadOfAll(t *testing.T) {
	d := draws(0xbb67ae8584caa73b)
	fitting, not := 0, 0
	for range 60000 {
		l := d.look()
		c := worker.Choose(l)
		fits := false
		if k := slices.IndexFunc(l.Waits, func(w api.Wait) bool { return w.Job.Id == l.Head }); k >= 0 {
			_, e := elastic.Most(l, l.Waits[k].Job)
			fits = e == api.OK
		}
		if fits {
			fitting++
		} else {
			not++
		}
		if fits != (c.Do == api.Head) || fits && c.Id != l.Head || c.Do == api.Fill && c.Id == l.Head {
			t.Fatal(l, c)
		}
	}
	if fitting < 2000 || not < 2000 {
		t.Error(fitting, not)
	}
}

// P15.2: what else is chosen leaves the head its promise, if it had it, and what is left of it: in looks that are drawn, one choice behind the other.
func TestPromiseIsLeft(t *testing.T) {
	d := draws(0x3c6ef372fe94f82b)
	seen := map[int]int{}
	for range 60000 {
		l := d.look()
		if _, is := elastic.Head(l); !is {
			continue
		}
		for had := pledge(l) <= max(l.Now, l.Promise); had; {
			c := worker.Choose(l)
			// A growth of the head's own is no other one's.
			if c.Do == api.Rest || c.Do == api.Head || c.Id == l.Head {
				break
			}
			l = apply(t, l, c)
			seen[c.Do]++
			if tick := pledge(l); tick > max(l.Now, l.Promise) {
				t.Fatal(l, c, tick)
			}
		}
	}
	if seen[api.Fill] < 1000 || seen[api.Grow] < 1000 {
		t.Error(seen)
	}
}

// settled is a look in which what has ended by now is free again.
func settled(t *testing.T, l api.Look) api.Look {
	t.Helper()
	var ends []api.Hold
	l.Left = slices.Clone(l.Left)
	for _, h := range l.Ends {
		if h.Until > l.Now {
			ends = append(ends, h)
			continue
		}
		view, e := pack.More(l.View, h.Slots)
		if e != api.OK {
			t.Fatal(l, h, e)
		}
		l.View = view
		for _, s := range h.Slots {
			if h.Queue < len(l.Left) {
				l.Left[h.Queue].Gpus += count(s.Mask)
				l.Left[h.Queue].Cpus += s.Cpus
			}
		}
	}
	l.Ends = ends
	return l
}

// P15.2: so the head is taken by the tick that it was promised, whatever is filled or grows till then, and comes to wait besides.
func TestHeadIsTakenInTime(t *testing.T) {
	d := draws(0x510e527fade682d1)
	later, done := 0, map[int]int{}
	for range 60000 {
		l := settled(t, d.look())
		// The head's own doesn't run.
		l.Running = slices.DeleteFunc(l.Running, func(r api.Record) bool { return r.Job.Id == l.Head })
		if l.Promise = pledge(l); l.Promise == never {
			continue
		}
		if l.Promise > l.Now {
			later++
		}
		for taken := false; !taken; {
			c := worker.Choose(l)
			done[c.Do]++
			switch c.Do {
			case api.Head:
				taken = true
			case api.Rest:
				if l.Now++; l.Now > l.Promise {
					t.Fatal(l)
				}
				l.Waits = append(l.Waits, waits(d.job())...)
			default:
				l = apply(t, l, c)
			}
			l = settled(t, l)
		}
	}
	if later < 500 || done[api.Fill] < 1000 || done[api.Grow] < 1000 || done[api.Rest] < 1000 {
		t.Error(later, done)
	}
}

// P15.2: what else is chosen is chosen as well where the head has its promise anyhow, and nothing is, where it hasn't.
func TestPromiseThatIsNotHad(t *testing.T) {
	for _, promised := range []int{math.MinInt, -1, 0, 2, 6} {
		l := beside([]api.Job{gang(1, 0, 1, 9, 4), gang(2, 2, 1, 1, 0)}, gang(9, 0, 1, 9, 1))
		l.Promise = promised
		rests(t, l)
		// A promise that is over counts as now.
		l.Now, l.Timeout = 7, 0
		l.Waits[1].Job.Runtime = 0
		chooses(t, l, api.Fill, 1, at(0, 0b1111)...)
	}
}
