package worker_test

import (
	"math"
	"slices"
	"testing"

	"ensemble/api"
	"ensemble/elastic"
	"ensemble/pack"
	"ensemble/promise"
	"ensemble/worker"
)

const (
	last  = 1 << 30
	never = last + 1
	far   = 1 << 40
)

// plenty is more than any gang needs.
var plenty = api.Units{Gpus: far, Cpus: far}

// free is what is free at a spot: of Cpus always enough, so that a test speaks of Gpus.
func free(node int, m uint64) api.Free {
	return api.Free{Spot: api.Spot{Node: node}, Mask: m, Cpus: 99}
}

// at is slots of a Gpu each, one for each unit of the mask, lowest first.
func at(node int, m uint64) []api.Slot {
	var slots []api.Slot
	for u := range 64 {
		if m>>u&1 == 1 {
			slots = append(slots, api.Slot{Spot: api.Spot{Node: node}, Mask: 1 << u})
		}
	}
	return slots
}

// hold is one that ends.
func hold(id, queue, until int, slots ...api.Slot) api.Hold {
	return api.Hold{Id: id, Queue: queue, Until: until, Running: until%2 == 0, Slots: slots}
}

// gang is a job of least to most members of a Gpu each.
func gang(id, queue, least, most, runtime int) api.Job {
	return api.Job{Id: id, Queue: queue, Prio: id % 16, Runtime: runtime, Shape: api.Shape{Gpus: 1, Min: least, Max: most}}
}

// waits are gangs that wait, in this order; neither Since nor Number tells of it.
func waits(jobs ...api.Job) []api.Wait {
	var l []api.Wait
	for k, j := range jobs {
		l = append(l, api.Wait{Job: j, Since: k % 3, Number: len(jobs) - k})
	}
	return l
}

// runs are gangs that run.
func runs(jobs ...api.Job) []api.Record {
	var l []api.Record
	for k, j := range jobs {
		l = append(l, api.Record{Job: j, State: api.Running, Number: len(jobs) - k, Members: 1})
	}
	return l
}

// chooses holds a choice to be just this one; a rest has neither Id nor slots.
func chooses(t *testing.T, l api.Look, do, id int, slots ...api.Slot) {
	t.Helper()
	if c := worker.Choose(l); c.Do != do || c.Id != id || !slices.Equal(c.Slots, slots) {
		t.Errorf("Choose(%v) = %v, want %d %d %v", l, c, do, id, slots)
	}
}

func rests(t *testing.T, l api.Look) {
	t.Helper()
	chooses(t, l, api.Rest, 0)
}

// plainChoose writes down all that goes, by the chapter's words, and takes the first.
func plainChoose(l api.Look) api.Choice {
	var all []api.Choice
	add := func(do, id int, slots []api.Slot, e api.Errno) {
		if e == api.OK {
			all = append(all, api.Choice{Do: do, Id: id, Slots: slots})
		}
	}
	var heads, others []api.Job
	for _, w := range l.Waits {
		if w.Job.Id == l.Head && l.Head != 0 {
			heads = append(heads, w.Job)
		} else {
			others = append(others, w.Job)
		}
	}
	if len(heads) > 0 {
		slots, e := elastic.Most(l, heads[0])
		add(api.Head, l.Head, slots, e)
	}
	for _, j := range others {
		slots, e := elastic.Fill(l, j, j.Runtime+l.Timeout+l.Now)
		add(api.Fill, j.Id, slots, e)
	}
	for _, r := range l.Running {
		for _, h := range l.Ends {
			if h.Id == r.Job.Id {
				slot, e := elastic.Grow(l, h, r.Job)
				add(api.Grow, r.Job.Id, []api.Slot{slot}, e)
				break
			}
		}
	}
	return append(all, api.Choice{})[0]
}

// apply is the look behind a choice, with the hold that was taken, or has a slot more, among those that end.
func apply(t *testing.T, l api.Look, c api.Choice) api.Look {
	t.Helper()
	h, ok := taken(&l, c)
	if !ok {
		t.Fatal(l, c)
	}
	queue := h.Queue
	l.Ends = append(slices.Clone(l.Ends), h)
	view, e := pack.Less(l.View, c.Slots)
	if e != api.OK {
		t.Fatal(l, c, e)
	}
	l.View = view
	l.Left = slices.Clone(l.Left)
	for _, s := range c.Slots {
		l.Left[queue].Gpus -= count(s.Mask)
		l.Left[queue].Cpus -= s.Cpus
	}
	if l.Left[queue].Gpus < 0 || l.Left[queue].Cpus < 0 {
		t.Fatal(l, c)
	}
	return l
}

// taken is the hold of a choice's slots, and takes who is filled off those that wait; false, if nobody of its Id may have these slots.
func taken(l *api.Look, c api.Choice) (api.Hold, bool) {
	for k, w := range l.Waits {
		slots, e := elastic.Fill(*l, w.Job, l.Now+l.Timeout+w.Job.Runtime)
		if c.Do == api.Fill && w.Job.Id == c.Id && e == api.OK && slices.Equal(slots, c.Slots) {
			l.Waits = slices.Delete(slices.Clone(l.Waits), k, k+1)
			return hold(c.Id, w.Job.Queue, l.Now+l.Timeout+w.Job.Runtime, slots...), true
		}
	}
	n := slices.IndexFunc(l.Ends, func(h api.Hold) bool { return h.Id == c.Id })
	for _, r := range l.Running {
		if c.Do != api.Grow || r.Job.Id != c.Id || n < 0 {
			continue
		}
		// A hold of its own, since its queue may be another one than that of the hold that grows.
		if slot, e := elastic.Grow(*l, l.Ends[n], r.Job); e == api.OK && slices.Equal([]api.Slot{slot}, c.Slots) {
			return hold(c.Id, r.Job.Queue, l.Ends[n].Until, slot), true
		}
	}
	return api.Hold{}, false
}

func count(m uint64) int {
	n := 0
	for ; m != 0; m >>= 1 {
		n += int(m & 1)
	}
	return n
}

// pledge is the tick at which the head's least members fit, by what is seen; Never, if they never do, or may not be.
func pledge(l api.Look) int {
	w, is := elastic.Head(l)
	if !is || w.Queue < 0 || w.Queue >= len(l.Left) {
		return never
	}
	tick, e := promise.Earliest(l.Now, l.View, l.Left[w.Queue], l.Ends, w)
	if e != api.OK {
		return never
	}
	return tick
}

// draws are numbers that look as if drawn, and are the same in each run.
type draws uint64

func (d *draws) below(n int) int {
	x := uint64(*d)
	x ^= x << 13
	x ^= x >> 7
	x ^= x << 17
	*d = draws(x)
	return int(x >> 1 % uint64(n))
}

// of is one of these numbers.
func (d *draws) of(numbers ...int) int { return numbers[d.below(len(numbers))] }

// job is drawn; its queue isn't there, or its shape may not be, at times.
func (d *draws) job() api.Job {
	least := 1 + d.below(1+d.below(7))
	j := api.Job{Id: 1 + d.below(8), Queue: d.below(2), Prio: d.below(16), Runtime: d.below(1 + d.below(20))}
	j.Shape = api.Shape{Gpus: d.below(3), Cpus: 1 + d.below(4), Min: least, Max: min(16, least+d.below(5))}
	switch d.below(16) {
	case 0:
		j.Queue = d.of(-1, 3, 4, 1<<32, math.MinInt, math.MaxInt)
	case 1:
		j.Shape = wrongShapes()[d.below(len(wrongShapes()))]
	}
	return j
}

// look is drawn: the units of a few spots are free, or held, or neither; most heads have a promise that they can have.
func (d *draws) look() api.Look {
	l := api.Look{Now: d.below(20), Head: d.below(6), Timeout: d.below(5)}
	for range 1 + d.below(3) {
		l.Left = append(l.Left, api.Units{Gpus: d.of(far, d.below(12)), Cpus: d.of(far, far, d.below(40)-2)})
	}
	for range d.below(6) {
		l.Ends = append(l.Ends, hold(1+d.below(8), d.below(3), d.of(d.below(24), d.below(24), d.below(24), never)))
	}
	for range d.below(7) {
		l.Waits = append(l.Waits, waits(d.job())...)
	}
	if n := len(l.Waits); n > 0 && d.below(2) == 0 {
		l.Head = l.Waits[d.below(n)].Job.Id
	}
	for range d.below(7) {
		l.Running = append(l.Running, runs(d.job())...)
	}
	for node := range d.below(5) {
		d.spot(&l, node)
	}
	if l.Promise = d.below(24); d.below(4) > 0 {
		l.Promise = pledge(l) + d.below(3)*d.below(3)
	}
	return l
}

// spot puts a node to what is seen, whose Gpus are free, or held, or neither; Cpus are free or held.
func (d *draws) spot(l *api.Look, node int) {
	f := free(4-node, 0)
	f.Cpus = d.below(30)
	for u := range 6 {
		m := uint64(1) << (u * 2)
		switch k := d.below(5); {
		case k < 2:
			f.Mask |= m
		case k < 4 && len(l.Ends) > 0:
			h := &l.Ends[d.below(len(l.Ends))]
			h.Slots = append(h.Slots, api.Slot{Spot: f.Spot, Mask: m, Cpus: d.below(3)})
		}
	}
	l.View = append(l.View, f)
}

// spare gives all lists of a look room beyond their ends, and answers one that tells whether they are as they were, the room too.
func spare(l *api.Look) func() bool {
	odd := gang(7, 0, 1, 9, 1)
	l.View = append(slices.Clone(l.View), free(9, 9))[:len(l.View)]
	l.Left = append(slices.Clone(l.Left), plenty)[:len(l.Left)]
	l.Ends = append(slices.Clone(l.Ends), hold(7, 0, 3, at(9, 6)...))[:len(l.Ends)]
	for k := range l.Ends {
		l.Ends[k].Slots = append(slices.Clone(l.Ends[k].Slots), at(9, 1)...)[:len(l.Ends[k].Slots)]
	}
	l.Waits = append(slices.Clone(l.Waits), waits(odd)...)[:len(l.Waits)]
	l.Running = append(slices.Clone(l.Running), runs(odd)...)[:len(l.Running)]
	was := whole(*l)
	return func() bool {
		is := whole(*l)
		same := func(a, b api.Hold) bool {
			return a.Id == b.Id && a.Queue == b.Queue && a.Until == b.Until && a.Running == b.Running && slices.Equal(a.Slots, b.Slots)
		}
		return slices.Equal(is.View, was.View) && slices.Equal(is.Left, was.Left) && slices.EqualFunc(is.Ends, was.Ends, same) && slices.Equal(is.Waits, was.Waits) && slices.Equal(is.Running, was.Running)
	}
}

// whole is a copy of a look, with what stands in the room beyond its lists' ends.
func whole(l api.Look) api.Look {
	l.View, l.Left = slices.Clone(l.View[:cap(l.View)]), slices.Clone(l.Left[:cap(l.Left)])
	l.Waits, l.Running = slices.Clone(l.Waits[:cap(l.Waits)]), slices.Clone(l.Running[:cap(l.Running)])
	l.Ends = slices.Clone(l.Ends[:cap(l.Ends)])
	for k, h := range l.Ends {
		l.Ends[k].Slots = slices.Clone(h.Slots[:cap(h.Slots)])
	}
	return l
}

// wrongShapes may not be, each in one way, or in several.
func wrongShapes() []api.Shape {
	return []api.Shape{
		{}, {Min: 1, Max: 1}, {Gpus: 1}, {Gpus: 1, Min: 1}, {Gpus: 1, Max: 1}, {Gpus: 1, Min: 2, Max: 1}, {Cpus: 1, Min: 1, Max: 17}, {Cpus: 1, Min: 17, Max: 17}, {Cpus: 1, Min: 0, Max: 4}, {Cpus: 1, Min: -1, Max: 1},
		{Gpus: 17, Min: 1, Max: 1}, {Gpus: -1, Cpus: 1, Min: 1, Max: 1}, {Cpus: 1025, Min: 1, Max: 1}, {Gpus: 1, Cpus: -1, Min: 1, Max: 1},
		{Gpus: math.MinInt, Cpus: 1, Min: 1, Max: 1}, {Gpus: math.MaxInt, Min: 1, Max: 1}, {Gpus: 1, Min: math.MinInt, Max: math.MaxInt}, {Gpus: 1, Min: 1, Max: math.MaxInt}, {Gpus: 1 << 32, Cpus: 1, Min: 1, Max: 1}, {Gpus: 1, Min: 1 + 1<<32, Max: 2 + 1<<32},
	}
}

// wrongQueues are numbers of queues that aren't there, if there are so many.
func wrongQueues(n int) []int {
	return []int{-1, -2, -n, n, n + 1, 99, 1 << 32, 1<<32 + n - 1, -1 << 32, math.MinInt, math.MinInt + 1, math.MaxInt - 1, math.MaxInt}
}
