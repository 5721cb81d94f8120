package elastic_test

import (
	"math"
	"slices"
	"testing"

	"ensemble/api"
	"ensemble/elastic"
	"ensemble/pack"
	"ensemble/promise"
)

const (
	last  = 1 << 30
	never = last + 1
	far   = 1 << 40
)

// plenty is more than any gang needs.
var plenty = api.Units{Gpus: far, Cpus: far}

// free is what is free at a spot.
func free(node, domain int, m uint64, cpus int) api.Free {
	return api.Free{Spot: api.Spot{Node: node, Domain: domain}, Mask: m, Cpus: cpus}
}

// at is a slot.
func at(node, domain int, m uint64, cpus int) api.Slot {
	return api.Slot{Spot: api.Spot{Node: node, Domain: domain}, Mask: m, Cpus: cpus}
}

// gpus is so many Gpus as a mask.
func gpus(n int) uint64 { return 1<<n - 1 }

// hold is one that ends; its Id and Running play no part.
func hold(queue, until int, slots ...api.Slot) api.Hold {
	return api.Hold{Id: 900 + until%7, Queue: queue, Until: until, Running: until%2 == 0, Slots: slots}
}

// gang is a job of least to most members, of so much each; its Prio and Runtime play no part.
func gang(id, queue, gpus, cpus, least, most int) api.Job {
	return api.Job{Id: id, Queue: queue, Prio: 3, Runtime: 5, Shape: api.Shape{Gpus: gpus, Cpus: cpus, Min: least, Max: most}}
}

// wait is a gang that waits.
func wait(j api.Job) api.Wait { return api.Wait{Job: j, Since: 1, Number: 2} }

// held has so many slots, of a gang that runs; they are nowhere in the view.
func held(n, until int) api.Hold {
	return api.Hold{Id: 77, Queue: 99, Until: until, Running: true, Slots: slices.Repeat([]api.Slot{at(31, 3, 1, 1)}, n)}
}

// placing holds an answer to be Place's slots of so many members; of none, the error alone.
func placing(t *testing.T, call string, l api.Look, j api.Job, slots []api.Slot, e api.Errno, members int, want api.Errno) {
	t.Helper()
	var place []api.Slot
	if want == api.OK {
		f := api.OK
		if place, f = pack.Place(l.View, j.Shape, members); f != api.OK {
			t.Fatal(l, j, members, f)
		}
	}
	if !slices.Equal(slots, place) || e != want {
		t.Errorf("%s(%v, %v) = %v, %d, want %v, %d", call, l, j, slots, e, place, want)
	}
}

// most holds Most's answer to be so many members.
func most(t *testing.T, l api.Look, j api.Job, members int) {
	t.Helper()
	slots, e := elastic.Most(l, j)
	placing(t, "Most", l, j, slots, e, members, api.OK)
}

// fills holds Fill's answer to be so many members; 0: that not even Min may go ahead.
func fills(t *testing.T, l api.Look, j api.Job, until, members int) {
	t.Helper()
	slots, e := elastic.Fill(l, j, until)
	want := api.OK
	if members == 0 {
		want = api.ErrBusy
	}
	placing(t, "Fill", l, j, slots, e, members, want)
}

// grows holds Grow's answer to be Place's slot of one member.
func grows(t *testing.T, l api.Look, h api.Hold, j api.Job) {
	t.Helper()
	s, e := elastic.Grow(l, h, j)
	placing(t, "Grow", l, j, []api.Slot{s}, e, 1, api.OK)
}

// stays holds Grow's answer to be this error alone.
func stays(t *testing.T, l api.Look, h api.Hold, j api.Job, want api.Errno) {
	t.Helper()
	if s, e := elastic.Grow(l, h, j); s != (api.Slot{}) || e != want {
		t.Errorf("Grow(%v, %v, %v) = %v, %d, want %d", l, h, j, s, e, want)
	}
}

// refused holds Most's and Fill's answers to be this error alone, whatever until is.
func refused(t *testing.T, l api.Look, j api.Job, want api.Errno) {
	t.Helper()
	if slots, e := elastic.Most(l, j); len(slots) != 0 || e != want {
		t.Errorf("Most(%v, %v) = %v, %d, want %d", l, j, slots, e, want)
	}
	for _, until := range []int{math.MinInt, -1, 0, 7, last, never, math.MaxInt} {
		if slots, e := elastic.Fill(l, j, until); len(slots) != 0 || e != want {
			t.Errorf("Fill(%v, %v, %d) = %v, %d, want %d", l, j, until, slots, e, want)
		}
	}
}

// plainUnits counts a slot's units.
func plainUnits(slots []api.Slot) api.Units {
	var u api.Units
	for _, s := range slots {
		u.Cpus += s.Cpus
		for k := range 64 {
			u.Gpus += int(s.Mask >> k & 1)
		}
	}
	return u
}

// plainRoom cuts members out of each spot one by one, till none fits, or there are 16.
func plainRoom(view []api.Free, s api.Shape) int {
	room := 0
	for _, f := range view {
		u := plainUnits([]api.Slot{{Mask: f.Mask, Cpus: f.Cpus}})
		for n := 0; n < 16 && u.Gpus >= s.Gpus && u.Cpus >= s.Cpus; n++ {
			u.Gpus -= s.Gpus
			u.Cpus -= s.Cpus
			room++
		}
	}
	return room
}

// plainEnough counts what members need one by one.
func plainEnough(left api.Units, s api.Shape, members int) bool {
	for range members {
		left.Gpus -= s.Gpus
		left.Cpus -= s.Cpus
	}
	return left.Gpus >= 0 && left.Cpus >= 0
}

// plainTurn takes slots off a view, or puts them to it, unit by unit; false, if one isn't there.
func plainTurn(view []api.Free, slots []api.Slot, off bool) ([]api.Free, bool) {
	after := append([]api.Free{}, view...)
	for _, s := range slots {
		k := slices.IndexFunc(after, func(f api.Free) bool { return f.Spot == s.Spot })
		if k < 0 || off && (s.Mask&^after[k].Mask != 0 || s.Cpus > after[k].Cpus) || !off && s.Mask&after[k].Mask != 0 {
			return nil, false
		}
		after[k].Mask ^= s.Mask
		after[k].Cpus += map[bool]int{true: -s.Cpus, false: s.Cpus}[off]
	}
	return after, true
}

func plainShape(s api.Shape) bool {
	return s.Gpus >= 0 && s.Gpus <= 16 && s.Cpus >= 0 && s.Cpus <= 1024 && s.Gpus+s.Cpus > 0 && s.Min >= 1 && s.Max >= s.Min && s.Max <= 16
}

// plainLet asks by the chapter's words, one behind the other, whether a hold is let.
func plainLet(l api.Look, h api.Hold) bool {
	u := plainUnits(h.Slots)
	if h.Queue < 0 || h.Queue >= len(l.Left) || u.Gpus > l.Left[h.Queue].Gpus || u.Cpus > l.Left[h.Queue].Cpus {
		return false
	}
	if _, ok := plainTurn(l.View, h.Slots, true); !ok {
		return false
	}
	for _, w := range l.Waits {
		if l.Head != 0 && w.Job.Id == l.Head {
			return h.Id == l.Head || plainSafe(l, w.Job, h)
		}
	}
	return true
}

// plainSafe asks for each tick up to the promise whether the head's members fit beside the hold; no end in the tests is one of the ticks that are left out.
func plainSafe(l api.Look, head api.Job, h api.Hold) bool {
	if head.Queue < 0 || head.Queue >= len(l.Left) || l.Now < 0 || l.Now > last || !plainShape(head.Shape) {
		return false
	}
	if l.Promise >= never {
		return true
	}
	for tick := l.Now; tick <= max(l.Now, min(l.Promise, l.Now+60)); tick++ {
		if plainFits(l, head, h, tick) {
			return true
		}
	}
	for tick := last - 5; tick <= l.Promise; tick++ {
		if tick >= l.Now && plainFits(l, head, h, tick) {
			return true
		}
	}
	return false
}

// plainFits tells whether the head's least members fit at the tick; the hold is taken only if it hasn't ended by then.
func plainFits(l api.Look, head api.Job, h api.Hold, tick int) bool {
	view, left := l.View, l.Left[head.Queue]
	turn := func(x api.Hold, off bool, sign int) {
		view, _ = plainTurn(view, x.Slots, off)
		if u := plainUnits(x.Slots); x.Queue == head.Queue {
			left.Gpus += sign * u.Gpus
			left.Cpus += sign * u.Cpus
		}
	}
	if h.Until > tick {
		turn(h, true, -1)
	}
	for _, x := range l.Ends {
		if x.Until <= tick {
			turn(x, false, 1)
		}
	}
	return plainEnough(left, head.Shape, head.Shape.Min) && plainRoom(view, head.Shape) >= head.Shape.Min
}

// plainMost tries every number of members, upwards.
func plainMost(l api.Look, j api.Job) (int, api.Errno) {
	switch {
	case !plainShape(j.Shape):
		return 0, api.ErrRange
	case j.Queue < 0 || j.Queue >= len(l.Left):
		return 0, api.ErrNone
	case plainRoom(l.View, j.Shape) < j.Shape.Min:
		return 0, api.ErrFit
	case !plainEnough(l.Left[j.Queue], j.Shape, j.Shape.Min):
		return 0, api.ErrQuota
	}
	n := j.Shape.Min
	for n < j.Shape.Max && plainRoom(l.View, j.Shape) > n && plainEnough(l.Left[j.Queue], j.Shape, n+1) {
		n++
	}
	return n, api.OK
}

// plainFill tries every number of members, and keeps the greatest one that is let.
func plainFill(l api.Look, j api.Job, until int) (int, api.Errno) {
	upTo, e := plainMost(l, j)
	if e != api.OK {
		return 0, e
	}
	n := 0
	for members := j.Shape.Min; members <= upTo; members++ {
		slots, _ := pack.Place(l.View, j.Shape, members)
		if plainLet(l, api.Hold{Id: j.Id, Queue: j.Queue, Until: until, Slots: slots}) {
			n = members
		}
	}
	if n == 0 {
		return 0, api.ErrBusy
	}
	return n, api.OK
}

func plainGrow(l api.Look, h api.Hold, j api.Job) api.Errno {
	switch {
	case !plainShape(j.Shape):
		return api.ErrRange
	case j.Queue < 0 || j.Queue >= len(l.Left):
		return api.ErrNone
	case len(h.Slots) >= j.Shape.Max:
		return api.ErrFull
	case plainRoom(l.View, j.Shape) < 1:
		return api.ErrFit
	case !plainEnough(l.Left[j.Queue], j.Shape, 1):
		return api.ErrQuota
	}
	slots, _ := pack.Place(l.View, j.Shape, 1)
	if !plainLet(l, api.Hold{Id: j.Id, Queue: j.Queue, Until: h.Until, Slots: slots}) {
		return api.ErrBusy
	}
	return api.OK
}

// draws are numbers that look as if drawn, and are the same in each run.
type draws uint64

func (d *draws) below(n int) int {
	x := uint64(*d)
	x ^= x << 13
	x ^= x >> 7
	x ^= x << 17
	*d = draws(x)
	return int(x >> 1 % uint64(n))
}

// until is a drawn end: mostly of the first 24 ticks, at times below 0, at the last ticks, and behind Never.
func (d *draws) until() int {
	switch d.below(12) {
	case 0:
		return last - 2 + d.below(5)
	case 1:
		return []int{math.MinInt, -1 << 32, -1, never, never + 7, 1 << 32, math.MaxInt}[d.below(7)]
	}
	return d.below(24)
}

// job is drawn; its queue isn't there, at times.
func (d *draws) job() api.Job {
	least := 1 + d.below(1+d.below(5))
	j := gang(d.below(6), d.below(3), d.below(3), d.below(4), least, min(16, least+d.below(9)))
	if j.Shape.Gpus+j.Shape.Cpus == 0 {
		j.Shape.Gpus = 1
	}
	if d.below(20) == 0 {
		j.Queue = []int{-1, 3, 4, 1 << 32, math.MinInt, math.MaxInt}[d.below(6)]
	}
	if d.below(40) == 0 {
		j.Shape = wrongShapes()[d.below(len(wrongShapes()))]
	}
	return j
}

// look is drawn: the units of a few spots are free, or held, or neither.
func (d *draws) look() api.Look {
	l := api.Look{Now: d.below(24), Head: d.below(6), Promise: d.until(), Timeout: d.below(9)}
	for range 1 + d.below(3) {
		u := plenty
		if d.below(2) == 0 {
			u = api.Units{Gpus: d.below(24) - 2, Cpus: d.below(30) - 2}
		}
		l.Left = append(l.Left, u)
	}
	for range d.below(6) {
		l.Ends = append(l.Ends, hold(d.below(3), d.until()))
	}
	for range d.below(7) {
		l.Waits = append(l.Waits, wait(d.job()))
	}
	for k := range d.below(5) {
		f := free(4-k, k*2%3, 0, d.below(16))
		for u := range 6 {
			if d.below(3) > 0 {
				f.Mask |= 1 << (u * 3)
			}
		}
		l.View = append(l.View, f)
		d.held(l.Ends, f)
	}
	if d.below(30) == 0 {
		l.Now = []int{-1, never, math.MinInt, math.MaxInt}[d.below(4)]
	}
	d.promised(&l)
	return l
}

// promised gives most heads a promise that they have, as late as that may be or some ticks later.
func (d *draws) promised(l *api.Look) {
	w, is := elastic.Head(*l)
	if !is || w.Queue < 0 || w.Queue >= len(l.Left) || d.below(4) == 0 {
		return
	}
	tick, e := promise.Earliest(l.Now, l.View, l.Left[w.Queue], l.Ends, w)
	if e == api.OK && tick < never {
		l.Promise = tick + d.below(4)*d.below(3)
	}
}

// held gives most of a spot's Gpus that aren't free to holds, at times with Cpus.
func (d *draws) held(ends []api.Hold, f api.Free) {
	for u := range 6 {
		m := uint64(1) << (u * 3)
		if len(ends) == 0 || f.Mask&m != 0 || d.below(5) == 0 {
			continue
		}
		h := &ends[d.below(len(ends))]
		h.Slots = append(h.Slots, api.Slot{Spot: f.Spot, Mask: m, Cpus: d.below(3)})
	}
}
