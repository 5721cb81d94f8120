package order_test

import (
	"math"
	"slices"
	"sort"

	"ensemble/api"
)

const last = 1 << 30

// wait is a gang that waits, in what an order looks at.
func wait(prio, since, number, id int) api.Wait {
	return api.Wait{Job: api.Job{Id: id, Prio: prio}, Since: since, Number: number}
}

// wild is w with far numbers in all that an order doesn't look at.
func wild(w api.Wait) api.Wait {
	w.Job.Queue, w.Job.Runtime = math.MinInt, math.MaxInt
	w.Job.Shape = api.Shape{Gpus: -1, Cpus: math.MaxInt, Min: math.MinInt, Max: -7}
	return w
}

// plainRank looks for the greatest number of ages that are over at now; it divides nothing, and knows no last tick.
func plainRank(w api.Wait, now, age int) int {
	const far = 1 << 32
	over := sort.Search(2*far, func(n int) bool { return w.Since+(n-far)*age > now }) - far - 1
	return w.Job.Prio + over
}

// plainAhead is told by the words of the chapter, at any tick.
func plainAhead(a, b api.Wait, now, age int) bool {
	x, y := plainRank(a, now, age), plainRank(b, now, age)
	switch {
	case x != y:
		return x > y
	case a.Number != b.Number:
		return a.Number < b.Number
	default:
		return a.Job.Id < b.Job.Id
	}
}

// plainSort takes one by one the first wait of which none that is left is ahead.
func plainSort(l []api.Wait, now, age int) []api.Wait {
	var sorted []api.Wait
	for left := slices.Clone(l); len(left) > 0; {
		first := 0
		for i := range left {
			if plainAhead(left[i], left[first], now, age) {
				first = i
			}
		}
		sorted = append(sorted, left[first])
		left = slices.Delete(left, first, first+1)
	}
	return sorted
}

// plainSure asks at now and at each tick behind it, till all has come that comes again.
func plainSure(a, b api.Wait, now, age int) bool {
	for tick := now; tick <= now+age; tick++ {
		if !plainAhead(a, b, tick, age) {
			return false
		}
	}
	return true
}

// alike tells whether two are so in all three.
func alike(a, b api.Wait, now, age int) bool {
	return plainRank(a, now, age) == plainRank(b, now, age) && a.Number == b.Number && a.Job.Id == b.Job.Id
}

// wrongPrios, wrongTicks and wrongAges are numbers that may not be.
func wrongPrios() []int {
	return []int{-1, 16, -2, 17, math.MinInt, math.MaxInt, -1 << 32, 1 << 32, 1<<32 + 1}
}

func wrongTicks() []int {
	return []int{-1, last + 1, -2, last + 2, -last, math.MinInt, math.MinInt + 1, math.MaxInt, math.MaxInt - 1, 1 << 31, 1 << 32, -1 << 32, 1<<32 + 5}
}

func wrongAges() []int {
	return []int{0, -1, 1025, -2, 1026, -1024, math.MinInt, math.MaxInt, 1 << 32, -1 << 32, 1<<32 + 1, 1<<32 + 4}
}

// wrongWaits are waits that may not be; what else they have may be, or is wrong too.
func wrongWaits() []api.Wait {
	var l []api.Wait
	for _, n := range wrongPrios() {
		l = append(l, wait(n, 0, 1, 7), wait(n, last, 1, 7), wait(n, 5, math.MinInt, math.MaxInt), wait(n, n, 1, 7))
	}
	for _, n := range wrongTicks() {
		l = append(l, wait(0, n, 1, 7), wait(15, n, 1, 7), wait(3, n, math.MaxInt, math.MinInt), wait(n, n, 1, 7))
	}
	// Together their numbers are those of a wait that may be.
	return append(l, wait(16, -1, 1, 7), wait(-1, 1, 1, 7), wait(-1, last+1, 1, 7))
}

// ages are some that may be, the lowest and the highest among them.
func ages() []int { return []int{1, 2, 3, 4, 7, 64, 1023, 1024} }

// farNumbers are Numbers and Ids of each kind: whatever they are, they may be.
func farNumbers() []int {
	return []int{math.MinInt, math.MinInt + 1, -1 << 32, -2, -1, 0, 1, 2, 65535, 65536, 1 << 32, math.MaxInt - 1, math.MaxInt}
}

// draws is a fixed row of numbers.
type draws uint64

func (d *draws) below(n int) int {
	*d ^= *d << 13
	*d ^= *d >> 7
	*d ^= *d << 17
	return int(uint64(*d>>11) % uint64(n))
}

// waits are so many, with few different Numbers and Ids, each told from all others by its Runtime.
func (d *draws) waits(n, sinces, base int) []api.Wait {
	var l []api.Wait
	for i := range n {
		w := wait(d.below(16), base+d.below(sinces), d.below(4), d.below(3))
		w.Job.Runtime, w.Job.Queue = i, -i
		l = append(l, w)
	}
	return l
}

// mixUp changes places.
func (d *draws) mixUp(l []api.Wait) {
	for i := range l {
		k := d.below(i + 1)
		l[i], l[k] = l[k], l[i]
	}
}
