package elastic_test

import (
	"math"
	"slices"
	"testing"

	"ensemble/api"
	"ensemble/elastic"
)

// The chapter's example: 8 Gpus free, 5 left: a gang of 1 to 7 members of a Gpu gets 5.
func TestExample(t *testing.T) {
	l := api.Look{View: []api.Free{free(0, 0, gpus(8), 0)}, Left: []api.Units{{Gpus: 5}}}
	j := gang(4, 0, 1, 0, 1, 7)
	most(t, l, j, 5)
	fills(t, l, j, 9, 5)
}

// P14.1: the head's want is that of the first one that waits whose Id is the head's, of Min members; whatever else there is.
func TestHead(t *testing.T) {
	waits := []api.Wait{wait(gang(4, 0, 1, 2, 3, 5)), wait(gang(5, 1, 2, 0, 1, 1)), wait(gang(6, 7, 0, 3, 16, 16)), wait(gang(5, 2, 4, 4, 2, 9)), wait(gang(0, 3, 1, 1, 1, 2)), wait(gang(-3, -1, 1, 1, 2, 2))}
	for _, x := range []struct {
		head int
		want api.Want
		is   bool
	}{
		{4, api.Want{Queue: 0, Members: 3, Shape: api.Shape{Gpus: 1, Cpus: 2, Min: 3, Max: 5}}, true},
		{5, api.Want{Queue: 1, Members: 1, Shape: api.Shape{Gpus: 2, Min: 1, Max: 1}}, true},
		{6, api.Want{Queue: 7, Members: 16, Shape: api.Shape{Cpus: 3, Min: 16, Max: 16}}, true},
		{-3, api.Want{Queue: -1, Members: 2, Shape: api.Shape{Gpus: 1, Cpus: 1, Min: 2, Max: 2}}, true},
		{0, api.Want{}, false}, {1, api.Want{}, false}, {7, api.Want{}, false}, {-4, api.Want{}, false}, {4 + 1<<32, api.Want{}, false}, {math.MinInt, api.Want{}, false}, {math.MaxInt, api.Want{}, false},
	} {
		for _, left := range [][]api.Units{nil, {}, {plenty}, {plenty, {}, plenty, plenty, plenty, plenty, plenty, plenty}} {
			for _, now := range []int{0, 5, -1, never} {
				l := api.Look{Now: now, Head: x.head, Promise: 9, View: []api.Free{free(0, 0, 1, 1)}, Left: left, Waits: waits, Running: []api.Record{{Job: gang(1, 0, 1, 1, 1, 1)}, {Job: gang(7, 0, 1, 1, 1, 1)}}}
				if w, is := elastic.Head(l); w != x.want || is != x.is {
					t.Error(x, w, is)
				}
			}
		}
		for _, none := range [][]api.Wait{nil, {}, waits[4:5]} {
			if w, is := elastic.Head(api.Look{Head: x.head, Waits: none}); w != (api.Want{}) || is {
				t.Error(x.head, w, is)
			}
		}
	}
}

// P14.1: of two that wait with the head's Id the first one is it, in either order.
func TestTwoOfHeadsId(t *testing.T) {
	a, b := wait(gang(5, 1, 1, 0, 2, 4)), wait(gang(5, 0, 2, 2, 3, 3))
	for _, waits := range [][]api.Wait{{a, b}, {b, a}, {wait(gang(4, 0, 1, 1, 1, 1)), a, b, a}, {wait(gang(4, 0, 1, 1, 1, 1)), b, b, a}} {
		first := waits[slices.IndexFunc(waits, func(w api.Wait) bool { return w.Job.Id == 5 })].Job
		if w, is := elastic.Head(api.Look{Head: 5, Waits: waits}); !is || w != (api.Want{Queue: first.Queue, Members: first.Shape.Min, Shape: first.Shape}) {
			t.Error(waits, w, is)
		}
		// Beside the first one, and not the other one, others keep off: a needs two Gpus of three, b more than there ever are.
		l := api.Look{Now: 2, Head: 5, Promise: 2, View: []api.Free{free(0, 0, gpus(3), 9)}, Left: []api.Units{plenty, plenty}, Waits: waits}
		want := 1
		if first == b.Job {
			want = 0
		}
		fills(t, l, gang(3, 0, 1, 0, 1, 3), 9, want)
	}
}

// P14.1: a head's want is told as it is, also of a shape that may not be.
func TestHeadOfWrongShape(t *testing.T) {
	for _, s := range wrongShapes() {
		j := gang(5, 1, 0, 0, 0, 0)
		j.Shape = s
		if w, is := elastic.Head(api.Look{Head: 5, Waits: []api.Wait{wait(j)}}); !is || w != (api.Want{Queue: 1, Members: s.Min, Shape: s}) {
			t.Error(s, w, is)
		}
	}
}

// P14.1: units left of 0 and below, as many as Min and as Max members need, and one less, of either kind, and of both.
func TestUnitsLeft(t *testing.T) {
	l := api.Look{View: []api.Free{free(0, 0, gpus(30), 90), free(0, 1, gpus(30), 90)}}
	for _, x := range []struct{ gpus, cpus, members int }{
		{6, 9, 3}, {5, 9, 0}, {6, 8, 0}, {5, 8, 0}, {7, 11, 3}, {8, 11, 3}, {7, 12, 3}, {8, 12, 4}, {9, 14, 4},
		{14, 21, 7}, {13, 21, 6}, {14, 20, 6}, {13, 20, 6}, {15, 22, 7}, {16, 24, 7}, {99, 99, 7}, {99, 9, 3}, {6, 99, 3}, {99, 8, 0}, {5, 99, 0}, {99, 20, 6}, {13, 99, 6},
		{0, 0, 0}, {0, 99, 0}, {99, 0, 0}, {-1, 99, 0}, {99, -1, 0}, {-1, -1, 0}, {-far, far, 0}, {far, -far, 0}, {far, far, 7},
		{math.MinInt, math.MaxInt, 0}, {math.MaxInt, math.MinInt, 0}, {math.MaxInt, math.MaxInt, 7}, {1 << 32, 1 << 32, 7}, {-1 << 32, -1 << 32, 0},
	} {
		l.Left = []api.Units{{Gpus: x.gpus, Cpus: x.cpus}}
		j := gang(4, 0, 2, 3, 3, 7)
		if x.members == 0 {
			refused(t, l, j, api.ErrQuota)
			// One member is asked for alone.
			if x.gpus >= 2 && x.cpus >= 3 {
				grows(t, l, held(1, 9), j)
			} else {
				stays(t, l, held(1, 9), j, api.ErrQuota)
			}
			continue
		}
		most(t, l, j, x.members)
		fills(t, l, j, 9, x.members)
		grows(t, l, held(6, 9), j)
	}
	// Of a kind that no member needs, 0 may be left, and no less.
	for _, x := range []struct {
		left    api.Units
		j       api.Job
		members int
	}{
		{api.Units{Gpus: 5}, gang(4, 0, 1, 0, 1, 7), 5}, {api.Units{Cpus: 5}, gang(4, 0, 0, 1, 1, 7), 5}, {api.Units{Gpus: 5, Cpus: -1}, gang(4, 0, 1, 0, 1, 7), 0}, {api.Units{Gpus: -1, Cpus: 5}, gang(4, 0, 0, 1, 1, 7), 0},
	} {
		l.Left = []api.Units{x.left}
		if x.members > 0 {
			most(t, l, x.j, x.members)
			grows(t, l, held(0, 9), x.j)
		} else {
			refused(t, l, x.j, api.ErrQuota)
			stays(t, l, held(0, 9), x.j, api.ErrQuota)
		}
	}
}

// P14.1: room for none, for one less than Min, for just Min, for some more, for just Max, and for more than that; in one spot and in several.
func TestRoom(t *testing.T) {
	for n := range 20 {
		views := [][]api.Free{
			{free(0, 0, gpus(2*n), 3*n)}, {free(0, 0, gpus(2*n+1), 3*n)}, {free(0, 0, gpus(2*n), 3*n+2)}, {free(0, 0, gpus(50), 3*n)}, {free(0, 0, gpus(2*n), 999)},
			{free(0, 0, gpus(1), 99), free(0, 1, gpus(n/3*2), 99), free(2, 0, gpus(50), 2), free(2, 1, gpus((n-n/3)*2), 99)},
		}
		for _, view := range views {
			l := api.Look{View: view, Left: []api.Units{plenty}}
			for least := 1; least <= 16; least++ {
				for _, upTo := range []int{least, least + 1, least + 4, 16} {
					j := gang(4, 0, 2, 3, least, min(16, upTo))
					if n < least {
						refused(t, l, j, api.ErrFit)
					} else {
						most(t, l, j, min(n, j.Shape.Max))
						fills(t, l, j, 9, min(n, j.Shape.Max))
					}
					if n < 1 {
						stays(t, l, held(0, 9), j, api.ErrFit)
					} else {
						grows(t, l, held(0, 9), j)
					}
				}
			}
		}
	}
	// Together there would be enough, but a member has all of one spot.
	l := api.Look{View: []api.Free{free(0, 0, 1, 9), free(0, 1, 1, 9)}, Left: []api.Units{plenty}}
	refused(t, l, gang(4, 0, 2, 0, 1, 1), api.ErrFit)
	stays(t, l, held(0, 9), gang(4, 0, 2, 0, 1, 1), api.ErrFit)
	refused(t, l, gang(4, 0, 1, 0, 3, 3), api.ErrFit)
	grows(t, l, held(2, 9), gang(4, 0, 1, 0, 3, 3))
}

// P14.1, P14.2: nothing is free.
func TestNoSpots(t *testing.T) {
	for _, view := range [][]api.Free{nil, {}} {
		for _, head := range []int{0, 5, 4, 8} {
			l := api.Look{Now: 3, Head: head, Promise: 9, View: view, Left: []api.Units{plenty}, Waits: []api.Wait{wait(gang(5, 0, 1, 1, 1, 1))}}
			for _, j := range []api.Job{gang(4, 0, 1, 0, 1, 1), gang(4, 0, 0, 1, 1, 16), gang(5, 0, 16, 1024, 16, 16)} {
				refused(t, l, j, api.ErrFit)
				stays(t, l, held(0, 9), j, api.ErrFit)
				j.Queue = 1
				refused(t, l, j, api.ErrNone)
				stays(t, l, held(0, 9), j, api.ErrNone)
			}
		}
	}
}

// queues are numbers of queues that aren't there, if there are so many.
func queues(n int) []int {
	return []int{-1, -2, -n, -n - 1, n, n + 1, 99, 1 << 32, 1<<32 + n - 1, -1 << 32, math.MinInt, math.MinInt + 1, math.MaxInt - 1, math.MaxInt}
}

// P14.1, P14.2: no queue, one, the first, one between and the last of several: each has its own units left.
func TestQueues(t *testing.T) {
	l := api.Look{View: []api.Free{free(0, 0, gpus(16), 99)}}
	for _, left := range [][]api.Units{nil, {}, {{Gpus: 3}}, {{Gpus: 5}, {Gpus: 2}}, {{Gpus: 1}, {Gpus: 0}, {Gpus: 8}, {Gpus: 16}, {Gpus: 4}, {Gpus: -3}, {Gpus: 6}, {Gpus: 7}}} {
		l.Left = left
		for q, u := range left {
			j := gang(4, q, 1, 0, 1, 16)
			if u.Gpus < 1 {
				refused(t, l, j, api.ErrQuota)
				stays(t, l, held(2, 9), j, api.ErrQuota)
				continue
			}
			most(t, l, j, u.Gpus)
			fills(t, l, j, 9, u.Gpus)
			grows(t, l, held(2, 9), j)
		}
		for _, q := range queues(len(left)) {
			if q >= 0 && q < len(left) {
				continue
			}
			refused(t, l, gang(4, q, 1, 0, 1, 16), api.ErrNone)
			stays(t, l, held(2, 9), gang(4, q, 1, 0, 1, 16), api.ErrNone)
		}
	}
}

// P14.1: Min and Max of 1 and of 16, alike and apart.
func TestLeastAndMost(t *testing.T) {
	for left := range 20 {
		for least := 1; least <= 16; least++ {
			for upTo := least; upTo <= 16; upTo++ {
				l := api.Look{View: []api.Free{free(0, 0, gpus(20), 0)}, Left: []api.Units{{Gpus: left}}}
				j := gang(4, 0, 1, 0, least, upTo)
				if left < least {
					refused(t, l, j, api.ErrQuota)
					continue
				}
				most(t, l, j, min(left, upTo))
				fills(t, l, j, never, min(left, upTo))
			}
		}
	}
	// More than 16 have room only if they are in more spots than one; 16 at most are placed.
	l := api.Look{View: []api.Free{free(0, 0, gpus(16), 0), free(1, 0, gpus(16), 0)}, Left: []api.Units{plenty}}
	most(t, l, gang(4, 0, 1, 0, 16, 16), 16)
	most(t, l, gang(4, 0, 16, 0, 1, 16), 2)
}

// wrongShapes may not be, each in one way, or in several.
func wrongShapes() []api.Shape {
	return []api.Shape{
		{}, {Min: 1, Max: 1}, {Min: 2, Max: 16}, {Gpus: 1}, {Gpus: 1, Min: 1}, {Gpus: 1, Max: 1}, {Gpus: 1, Min: 2, Max: 1}, {Gpus: 1, Min: 16, Max: 15}, {Cpus: 1, Min: 1, Max: 17}, {Cpus: 1, Min: 17, Max: 17}, {Cpus: 1, Min: 0, Max: 4}, {Cpus: 1, Min: -1, Max: 1}, {Gpus: 1, Min: -2, Max: -1},
		{Gpus: 17, Min: 1, Max: 1}, {Gpus: -1, Min: 1, Max: 1}, {Gpus: -1, Cpus: 1, Min: 1, Max: 1}, {Cpus: 1025, Min: 1, Max: 1}, {Cpus: -1, Min: 1, Max: 1}, {Gpus: 1, Cpus: -1, Min: 1, Max: 1},
		{Gpus: math.MinInt, Cpus: 1, Min: 1, Max: 1}, {Gpus: math.MaxInt, Min: 1, Max: 1}, {Gpus: 1, Cpus: math.MaxInt, Min: 1, Max: 1}, {Gpus: 1, Cpus: math.MinInt, Min: 1, Max: 1}, {Gpus: 1, Min: math.MinInt, Max: math.MaxInt}, {Gpus: 1, Min: 1, Max: math.MaxInt}, {Gpus: 1, Min: math.MaxInt, Max: math.MinInt}, {Gpus: 1 << 32, Cpus: 1, Min: 1, Max: 1}, {Gpus: 1, Min: 1 + 1<<32, Max: 2 + 1<<32},
	}
}

// P14.1, P14.2: shapes that may not be are refused, whatever there is.
func TestWrongShapes(t *testing.T) {
	for _, s := range wrongShapes() {
		for _, l := range []api.Look{{}, {View: []api.Free{free(0, 0, gpus(60), 1<<20)}, Left: []api.Units{plenty}}, {View: []api.Free{free(0, 0, gpus(60), 1<<20)}, Left: []api.Units{{}, plenty}, Head: 5, Waits: []api.Wait{wait(gang(5, 1, 1, 1, 1, 1))}}} {
			for _, q := range []int{0, 1, -1, 7} {
				for _, id := range []int{4, 5, 0} {
					j := api.Job{Id: id, Queue: q, Shape: s}
					refused(t, l, j, api.ErrRange)
					stays(t, l, held(0, 9), j, api.ErrRange)
					stays(t, l, held(16, 9), j, api.ErrRange)
				}
			}
		}
	}
}

// P14.1: several errors at once: the shape, the queue, room for Min members, and what is left.
func TestErrorOrder(t *testing.T) {
	const none, few = 0, 2
	for _, x := range []struct {
		wrong       bool
		queue       int
		room, left  int
		most, grown api.Errno
	}{
		{false, 0, 9, 9, api.OK, api.OK}, {false, 0, 9, few, api.ErrQuota, api.OK}, {false, 0, few, 9, api.ErrFit, api.OK}, {false, 0, few, few, api.ErrFit, api.OK},
		{false, 0, 9, none, api.ErrQuota, api.ErrQuota}, {false, 0, none, 9, api.ErrFit, api.ErrFit}, {false, 0, none, none, api.ErrFit, api.ErrFit}, {false, 0, few, none, api.ErrFit, api.ErrQuota}, {false, 0, none, few, api.ErrFit, api.ErrFit},
		{false, 1, 9, 9, api.ErrNone, api.ErrNone}, {false, -1, none, none, api.ErrNone, api.ErrNone}, {false, 7, few, 9, api.ErrNone, api.ErrNone},
		{true, 0, 9, 9, api.ErrRange, api.ErrRange}, {true, 1, 9, 9, api.ErrRange, api.ErrRange}, {true, 0, none, 9, api.ErrRange, api.ErrRange}, {true, 0, 9, none, api.ErrRange, api.ErrRange}, {true, -9, none, none, api.ErrRange, api.ErrRange},
	} {
		// Beside a head that lets nobody go ahead of it what is wrong is told as well.
		for _, busy := range []bool{false, true} {
			l := api.Look{View: []api.Free{free(0, 0, gpus(x.room), 0)}, Left: []api.Units{{Gpus: x.left}}}
			if busy {
				l.Head, l.Waits = 5, []api.Wait{wait(gang(5, 9, 1, 0, 1, 1))}
			}
			j := gang(4, x.queue, 1, 0, 3, 5)
			if x.wrong {
				j.Shape.Max = 2
			}
			if x.most != api.OK {
				refused(t, l, j, x.most)
			} else {
				most(t, l, j, 5)
				fills(t, l, j, 9, map[bool]int{true: 0, false: 5}[busy])
			}
			grown, full := x.grown, x.grown
			if full != api.ErrRange && full != api.ErrNone {
				full = api.ErrFull
			}
			stays(t, l, held(5, 9), j, full)
			stays(t, l, held(6, 9), j, full)
			switch {
			case grown == api.OK && busy:
				stays(t, l, held(4, 9), j, api.ErrBusy)
			case grown == api.OK:
				grows(t, l, held(4, 9), j)
			default:
				stays(t, l, held(4, 9), j, grown)
			}
		}
	}
}
