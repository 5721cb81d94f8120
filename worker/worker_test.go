package worker_test

import (
	"math"
	"slices"
	"testing"

	"ensemble/api"
	"ensemble/elastic"
	"ensemble/worker"
)

// others are gangs that each fit beside whoever isn't a head.
func others(n int) []api.Job {
	var l []api.Job
	for k := range n {
		l = append(l, gang(100+k, k%2, 1, 1+k%3, k))
	}
	return l
}

// The chapter's example: a head for which there is no room, one behind it that is safe: Fill.
func TestExample(t *testing.T) {
	l := api.Look{Head: 5, Promise: 7, View: []api.Free{free(0, 0b11)}, Left: []api.Units{plenty}}
	l.Ends = []api.Hold{hold(9, 0, 7, at(0, 0b100)...)}
	l.Waits = waits(gang(5, 0, 3, 3, 8), gang(6, 0, 2, 4, 7))
	chooses(t, l, api.Fill, 6, at(0, 0b11)...)
}

// P15.1: nobody waits, nobody runs, or neither: a rest has Id 0 and no slots, whoever is the head, and whatever is free.
func TestNobody(t *testing.T) {
	for _, none := range [][]api.Wait{nil, {}} {
		for _, idle := range [][]api.Record{nil, {}} {
			for _, head := range []int{0, 5, 9, -1, math.MaxInt} {
				rests(t, api.Look{Head: head, Waits: none, Running: idle})
				l := api.Look{
					Now: 3, Head: head, Promise: 4, Timeout: 2, View: []api.Free{free(0, 0b1111)}, Left: []api.Units{plenty},
					Ends: []api.Hold{hold(9, 0, 7, at(0, 0b110000)...)}, Waits: none, Running: idle,
				}
				rests(t, l)
				l.Running = runs(gang(9, 0, 1, 4, 2))
				chooses(t, l, api.Grow, 9, at(0, 0b1)...)
				l.Running = idle
				l.Waits = waits(gang(9, 0, 1, 4, 2))
				do := api.Fill
				if head == 9 {
					do = api.Head
				}
				chooses(t, l, do, 9, at(0, 0b1111)...)
			}
		}
	}
}

// P15.1, P15.2: a head that fits is chosen wherever it waits, ahead of all that could go too, with all that it can get; of those that run, too.
func TestHeadThatFits(t *testing.T) {
	for _, id := range []int{5, 1, -5, 5 + 1<<32, math.MinInt, math.MaxInt} {
		for n := range 9 {
			for k := range n + 1 {
				for _, running := range [][]api.Record{nil, runs(gang(9, 0, 1, 4, 2)), runs(gang(9, 0, 1, 4, 2), gang(id, 1, 1, 9, 2))} {
					for _, promised := range []int{math.MinInt, 0, 3, 4, 9, never} {
						l := api.Look{
							Now: 3, Head: id, Promise: promised, Timeout: 2, View: []api.Free{free(0, 0b1111)}, Left: []api.Units{plenty, plenty},
							Ends: []api.Hold{hold(9, 0, 7, at(0, 0b110000)...), hold(id, 0, 9)}, Running: running,
						}
						l.Waits = waits(slices.Insert(others(n), k, gang(id, 1, 2, 9, 1000))...)
						chooses(t, l, api.Head, id, at(0, 0b1111)...)
						l.Waits[k].Job.Shape.Max = 3
						chooses(t, l, api.Head, id, at(0, 0b111)...)
						l.Left[1].Gpus = 2
						chooses(t, l, api.Head, id, at(0, 0b11)...)
					}
				}
			}
		}
	}
}

// P15.1: a head that doesn't wait, or is 0, isn't chosen; others are filled as they stand, also one of the Id 0, and whatever is promised.
func TestHeadThatDoesNotWait(t *testing.T) {
	for _, head := range []int{0, 5, -1, 100 + 1<<32, math.MaxInt} {
		for _, first := range []int{1, 100, 0, -7} {
			if first == head && head != 0 {
				continue
			}
			for _, promised := range []int{math.MinInt, 0, 2, never} {
				l := api.Look{Now: 2, Head: head, Promise: promised, View: []api.Free{free(0, 0b111)}, Left: []api.Units{plenty, plenty}}
				l.Waits = waits(append([]api.Job{gang(first, 1, 2, 5, 1000)}, others(4)...)...)
				chooses(t, l, api.Fill, first, at(0, 0b111)...)
			}
		}
	}
}

// P15.1: of two that wait with the head's Id the first one is the head; the other one is neither it nor one that is filled.
func TestTwoOfHeadsId(t *testing.T) {
	small, great := gang(5, 0, 2, 3, 1), gang(5, 1, 5, 9, 1)
	for _, x := range []struct {
		jobs  []api.Job
		do    int
		id    int
		slots uint64
	}{
		{[]api.Job{small, great}, api.Head, 5, 0b111},
		{[]api.Job{great, small}, api.Rest, 0, 0},
		{[]api.Job{great, small, gang(6, 0, 1, 1, 1)}, api.Fill, 6, 0b1},
		{[]api.Job{great, gang(6, 0, 1, 1, 1), small}, api.Fill, 6, 0b1},
		{[]api.Job{gang(6, 0, 1, 1, 1), great, small}, api.Fill, 6, 0b1},
		{[]api.Job{gang(6, 0, 1, 1, 1), small, great}, api.Head, 5, 0b111},
		{[]api.Job{gang(6, 0, 1, 1, 1), small, small}, api.Head, 5, 0b111},
		{[]api.Job{great, great, small}, api.Rest, 0, 0},
	} {
		l := api.Look{Now: 2, Head: 5, Promise: never, View: []api.Free{free(0, 0b1111)}, Left: []api.Units{plenty, plenty}, Waits: waits(x.jobs...)}
		chooses(t, l, x.do, x.id, at(0, x.slots)...)
		// Without a head both are gangs like others.
		l.Head, l.Waits = 0, waits(great, small)
		chooses(t, l, api.Fill, 5, at(0, 0b111)...)
	}
}

// P15.1: two that wait with one Id, which isn't the head's: the first one that goes is filled.
func TestTwoOfOneId(t *testing.T) {
	small, great := gang(6, 0, 2, 3, 1), gang(6, 1, 4, 9, 1)
	for _, head := range []int{0, 5} {
		l := api.Look{Head: head, Promise: never, View: []api.Free{free(0, 0b1111)}, Left: []api.Units{plenty, plenty}}
		l.Waits = waits(gang(5, 0, 5, 5, 1), great, small)
		chooses(t, l, api.Fill, 6, at(0, 0b1111)...)
		l.Waits = waits(gang(5, 0, 5, 5, 1), small, great)
		chooses(t, l, api.Fill, 6, at(0, 0b111)...)
		l.View[0].Mask = 0b111
		l.Waits = waits(gang(5, 0, 5, 5, 1), great, small)
		chooses(t, l, api.Fill, 6, at(0, 0b111)...)
	}
}

// P15.1: without a head: the first that waits fits, only a later one does, none does; and there are many.
func TestWithoutHead(t *testing.T) {
	for _, n := range []int{1, 2, 3, 17, 128} {
		for k := range n + 1 {
			l := api.Look{Now: 2, View: []api.Free{free(0, 0b1111), free(1, 0b11)}, Left: []api.Units{plenty, {Gpus: 2, Cpus: 9}}}
			// Ahead of it there is one that lacks room, and one that lacks units, in turn.
			var jobs []api.Job
			for i := range n {
				jobs = append(jobs, []api.Job{gang(200+i, 0, 7, 9, 1), gang(200+i, 1, 3, 3, 1)}[i%2])
			}
			l.Waits = waits(jobs...)
			if k == n {
				rests(t, l)
				continue
			}
			l.Waits[k].Job = gang(6, 0, 5, 5, 1)
			chooses(t, l, api.Fill, 6, append(at(0, 0b1111), at(1, 0b1)...)...)
			l.Waits[k].Job = gang(6, 1, 1, 9, 1)
			chooses(t, l, api.Fill, 6, at(0, 0b11)...)
			// Behind it there may be any that go.
			l.Waits = append(l.Waits, waits(others(3)...)...)
			chooses(t, l, api.Fill, 6, at(0, 0b11)...)
			l.Waits[k].Job.Shape.Min = 3
			chooses(t, l, api.Fill, 100, at(0, 0b1)...)
		}
	}
}

// P15.1: of those that wait none goes; of those that run none, one, or several could grow: the first one of these does.
func TestGrow(t *testing.T) {
	for _, head := range []int{0, 5} {
		for n := range 8 {
			for could := range 1 << n {
				l := api.Look{Now: 2, Head: head, Promise: 7, View: []api.Free{free(0, 0b1100)}, Left: []api.Units{plenty}}
				l.Waits = waits(gang(5, 0, 3, 5, 1), gang(6, 0, 3, 5, 1))
				first := 0
				for k := range n {
					// Who has Max members can't grow; their Ids don't rise.
					id, most := 90-k, 2
					if could>>k&1 == 1 {
						most = 3
						if first == 0 {
							first = id
						}
					}
					l.Running = append(l.Running, runs(gang(id, 0, 1, most, 4))...)
					l.Ends = append([]api.Hold{hold(id, 0, 7, at(1+k, 0b11)...)}, l.Ends...)
				}
				for k := range n {
					l.View = append(l.View, free(1+k, 0))
				}
				if could == 0 {
					rests(t, l)
				} else {
					chooses(t, l, api.Grow, first, at(0, 0b100)...)
				}
			}
		}
	}
}

// P15.1: many run, and only one of them, or none, could grow.
func TestManyRun(t *testing.T) {
	const n = 128
	for k := range n + 1 {
		l := api.Look{View: []api.Free{free(0, 0b1000)}, Left: []api.Units{plenty}}
		for i := range n {
			l.Running = append(l.Running, runs(gang(1000-i, 0, 1, 1, 1))...)
			l.Ends = append(l.Ends, hold(1000-i, 0, 7, at(1, 0b1)...))
		}
		if k == n {
			rests(t, l)
			continue
		}
		l.Running[k].Job.Shape.Max = 2
		chooses(t, l, api.Grow, 1000-k, at(0, 0b1000)...)
	}
}

// P15.1: one that runs with no hold that ends, with one, and with two of its Id, of which the first one tells.
func TestHoldsOfOneThatRuns(t *testing.T) {
	full, half := at(0, 0b11), at(0, 0b10)
	for _, x := range []struct {
		ends []api.Hold
		grow bool
	}{
		{nil, false}, {[]api.Hold{}, false}, {[]api.Hold{hold(8, 0, 7, half...)}, false}, {[]api.Hold{hold(8, 0, 7, half...), hold(9+1<<32, 0, 7, half...), hold(-9, 0, 7, half...)}, false},
		{[]api.Hold{hold(9, 0, 7, half...)}, true}, {[]api.Hold{hold(8, 0, 7, half...), hold(9, 0, 7)}, true}, {[]api.Hold{hold(9, 0, 7), hold(8, 0, 7, full...)}, true},
		// With Max members, with more, and with one less.
		{[]api.Hold{hold(9, 0, 7, full...)}, false}, {[]api.Hold{hold(9, 0, 7, at(0, 0b111)...)}, false}, {[]api.Hold{hold(9, 0, 7, half...)}, true},
		{[]api.Hold{hold(9, 0, 7, full...), hold(9, 0, 7, half...)}, false}, {[]api.Hold{hold(9, 0, 7, half...), hold(9, 0, 7, full...)}, true},
		{[]api.Hold{hold(8, 0, 7, full...), hold(9, 0, 7, full...), hold(9, 0, 7)}, false}, {[]api.Hold{hold(9, 0, 7, half...), hold(9, 0, 8, half...)}, true},
		// Whether it is told to be running, and of which queue, plays no part.
		{[]api.Hold{{Id: 9, Queue: 4, Until: 7, Slots: half}}, true}, {[]api.Hold{{Id: 9, Queue: -1, Until: -7, Running: true}}, true},
	} {
		l := api.Look{View: []api.Free{free(0, 0b100)}, Left: []api.Units{plenty}, Ends: x.ends, Running: runs(gang(9, 0, 1, 2, 1))}
		for range 2 {
			if x.grow {
				chooses(t, l, api.Grow, 9, at(0, 0b100)...)
			} else {
				rests(t, l)
			}
			// What the record tells of its state and members plays no part.
			l.Running[0] = api.Record{Job: l.Running[0].Job, State: api.Waiting, Members: 16}
		}
		// One without a hold, or with a full one, doesn't keep off the next one.
		l.Running = append(l.Running, runs(gang(7, 0, 1, 2, 1))...)
		l.Ends = append(slices.Clone(l.Ends), hold(7, 0, 3, half...))
		want := 7
		if x.grow {
			want = 9
		}
		chooses(t, l, api.Grow, want, at(0, 0b100)...)
	}
}

// P15.1: the first hold of its Id tells till when one that grows has it, not a later one.
func TestHoldThatIsSafe(t *testing.T) {
	for _, x := range []struct {
		first, second int
		grow          bool
	}{{7, 8, true}, {8, 7, false}, {7, 7, true}, {8, 8, false}, {never, 2, false}, {math.MinInt, math.MaxInt, true}} {
		l := beside(nil, gang(3, 0, 1, 9, 1))
		l.View[0].Mask = 0b111
		l.Ends = append(l.Ends, hold(3, 0, x.first), hold(3, 0, x.second))
		if x.grow {
			chooses(t, l, api.Grow, 3, at(0, 0b1)...)
		} else {
			rests(t, l)
		}
	}
}

// P15.1: a gang that waits and one that runs with the same Id: it is filled, if it goes, and grows, if only that does.
func TestWaitsAndRuns(t *testing.T) {
	for _, head := range []int{0, 5, 8} {
		l := api.Look{Head: head, Promise: never, View: []api.Free{free(0, 0b1100)}, Left: []api.Units{plenty}, Ends: []api.Hold{hold(6, 0, 7, at(0, 0b1)...)}}
		l.Waits, l.Running = waits(gang(5, 0, 3, 4, 1), gang(6, 0, 2, 2, 1)), runs(gang(6, 0, 1, 9, 1))
		chooses(t, l, api.Fill, 6, at(0, 0b1100)...)
		l.Waits[1].Job.Shape = api.Shape{Gpus: 1, Min: 3, Max: 3}
		chooses(t, l, api.Grow, 6, at(0, 0b100)...)
		l.Running[0].Job.Shape.Max = 1
		rests(t, l)
		// So does the head: if it runs as well, that is its own hold.
		l.Running[0].Job.Shape.Max, l.Head, l.Promise = 2, 6, 0
		chooses(t, l, api.Grow, 6, at(0, 0b100)...)
		l.Waits[1].Job.Shape.Min = 2
		chooses(t, l, api.Head, 6, at(0, 0b1100)...)
	}
}

// P15.1: wrong shapes and queues among those that wait and those that run are passed over, however many they are ahead of one that goes.
func TestWrongOnesArePassedOver(t *testing.T) {
	var wrong []api.Job
	for k, s := range wrongShapes() {
		wrong = append(wrong, api.Job{Id: 20 + k, Queue: k % 2, Shape: s})
	}
	for k, q := range wrongQueues(2) {
		wrong = append(wrong, gang(60+k, q, 1, 4, 1))
	}
	for _, head := range []int{0, 5} {
		check := func(jobs []api.Job) {
			t.Helper()
			// A head that never fits is promised Never, which nothing endangers.
			l := api.Look{Now: 2, Head: head, Promise: never, View: []api.Free{free(0, 0b1100)}, Left: []api.Units{plenty, plenty}}
			for _, j := range append([]api.Job{gang(9, 0, 1, 1, 1)}, jobs...) {
				l.Ends = append(l.Ends, hold(j.Id, 0, 7))
			}
			l.Running, l.Waits = runs(jobs...), waits(append([]api.Job{gang(5, 1, 3, 3, 1)}, jobs...)...)
			rests(t, l)
			l.Running = append(l.Running, runs(gang(9, 1, 1, 3, 1))...)
			chooses(t, l, api.Grow, 9, at(0, 0b100)...)
			l.Waits = append(l.Waits, waits(gang(6, 1, 1, 3, 5))...)
			chooses(t, l, api.Fill, 6, at(0, 0b1100)...)
		}
		for k := range wrong {
			check(wrong[k : k+1])
			check(wrong[:k])
			check(wrong[k:])
		}
	}
}

// P15.1: Latest is now, the timeout and the job's Runtime together, also where they are 0 or 2^30; nothing else of a look or a job plays a part.
func TestLatest(t *testing.T) {
	numbers := []int{0, 1, 2, 7, 64, 1024, last - 1, last}
	for _, now := range numbers {
		for _, timeout := range numbers {
			for _, runtime := range numbers {
				want := now
				want += timeout
				want += runtime
				for _, l := range []api.Look{{}, {Head: 5, Promise: 99, Waits: waits(gang(5, 0, 1, 1, 9))}, beside(nil, gang(3, 0, 1, 1, 1))} {
					l.Now, l.Timeout = now, timeout
					for _, j := range []api.Job{{}, gang(5, 0, 1, 1, 0), gang(-1, -9, 7, 3, 0), {Id: 6, Prio: 99}} {
						j.Runtime = runtime
						if n := worker.Latest(l, j); n != want {
							t.Error(now, timeout, runtime, n)
						}
					}
				}
			}
		}
	}
	if n := worker.Latest(api.Look{Now: last, Timeout: last}, api.Job{Runtime: last}); n != 3<<30 {
		t.Error(n)
	}
}

// P15.1: what is chosen is just what layer 14 tells of the first one that goes, in looks that are drawn.
func TestAsLayer14Tells(t *testing.T) {
	d := draws(0x9e3779b97f4a7c15)
	seen := map[int]int{}
	for range 30000 {
		l := d.look()
		c, want := worker.Choose(l), plainChoose(l)
		if c.Do != want.Do || c.Id != want.Id || !slices.Equal(c.Slots, want.Slots) {
			t.Fatalf("Choose(%v) = %v, want %v", l, c, want)
		}
		seen[c.Do]++
	}
	for _, do := range []int{api.Rest, api.Head, api.Fill, api.Grow} {
		if seen[do] < 1000 {
			t.Error(do, seen)
		}
	}
}

// Rule 3: what is handed in stays as it is, its spare room too; what is answered shares nothing with it, nor with another answer.
func TestArgumentsAreLeft(t *testing.T) {
	d := draws(0x6a09e667f3bcc909)
	for range 8000 {
		l := d.look()
		same := spare(&l)
		c, again := worker.Choose(l), worker.Choose(l)
		worker.Latest(l, d.job())
		if !same() {
			t.Fatal(l)
		}
		kept := slices.Clone(again.Slots)
		room := c.Slots[:cap(c.Slots)]
		for k := range room {
			room[k] = api.Slot{Spot: api.Spot{Node: 77}, Mask: 77, Cpus: 77}
		}
		if !same() || !slices.Equal(again.Slots, kept) {
			t.Fatal(l, c, again)
		}
	}
}

// Rule 4: the same is answered again, whatever was asked between.
func TestAgain(t *testing.T) {
	d := draws(0x6c62272e07bb0142)
	for range 4000 {
		l := d.look()
		a := worker.Choose(l)
		worker.Choose(d.look())
		elastic.Head(d.look())
		b := worker.Choose(l)
		if a.Do != b.Do || a.Id != b.Id || !slices.Equal(a.Slots, b.Slots) {
			t.Fatal(l, a, b)
		}
	}
}
