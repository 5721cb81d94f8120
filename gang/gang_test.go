package gang_test

import (
	"math"
	"slices"
	"testing"

	"ensemble/api"
	"ensemble/gang"
)

// leads holds what Next answers against one.
func leads(t *testing.T, state, event, want int, wantE api.Errno) {
	t.Helper()
	if to, e := gang.Next(state, event); to != want || e != wantE {
		t.Errorf("Next(%d, %d) = %d, %d, want %d, %d", state, event, to, e, want, wantE)
	}
}

// The chapter's examples.
func TestExample(t *testing.T) {
	leads(t, api.Waiting, api.ToStart, 0, api.ErrState)
	leads(t, api.Reserved, api.ToExpire, api.Waiting, api.OK)
}

// P11.1: each state with each of what may happen, and what it leads to.
func TestNext(t *testing.T) {
	n := 0
	for _, state := range states() {
		for _, event := range events() {
			if to := plainNext(state, event); to != 0 {
				leads(t, state, event, to, api.OK)
				n++
			} else {
				leads(t, state, event, 0, api.ErrState)
			}
		}
	}
	if n != 9 {
		t.Error(n)
	}
}

// P11.1: states that aren't there, things that aren't there, and both, are ErrRange, ahead of ErrState.
func TestNextWrong(t *testing.T) {
	for _, wrong := range wrongNumbers() {
		for _, right := range states() {
			leads(t, wrong, right, 0, api.ErrRange)
			leads(t, right, wrong, 0, api.ErrRange)
		}
		for _, other := range wrongNumbers() {
			leads(t, wrong, other, 0, api.ErrRange)
		}
	}
}

// P11.1: the last three alone are over; numbers that are no state aren't.
func TestOver(t *testing.T) {
	for _, state := range states() {
		if is := gang.Over(state); is != (state >= api.Finished) {
			t.Errorf("Over(%d) = %t", state, is)
		}
	}
	for _, wrong := range wrongNumbers() {
		if gang.Over(wrong) {
			t.Errorf("Over(%d)", wrong)
		}
	}
}

// P11.1, P11.4: what is over leads nowhere, and what isn't leads somewhere.
func TestOverLeadsNowhere(t *testing.T) {
	for _, state := range states() {
		n := 0
		for _, event := range events() {
			if _, e := gang.Next(state, event); e == api.OK {
				n++
			}
		}
		if gang.Over(state) != (n == 0) {
			t.Errorf("of %d, %d may happen", state, n)
		}
	}
}

// P11.2: a book without records; whatever Id is asked for isn't there.
func TestNew(t *testing.T) {
	x := made(t)
	if l := x.b.All(); len(l) != 0 {
		t.Error(l)
	}
	for _, state := range slices.Concat(states(), wrongNumbers()) {
		if l := x.b.In(state); len(l) != 0 {
			t.Error(state, l)
		}
	}
	for _, id := range far() {
		x.lacks(id)
	}
}

// P11.2: the record of one that is added, as a whole; of the second one too.
func TestAdd(t *testing.T) {
	x := made(t)
	j := api.Job{Id: 9, Queue: 1, Prio: 4, Runtime: 5, Shape: api.Shape{Gpus: 1, Cpus: 6, Min: 2, Max: 4}}
	want := api.Record{Job: j, State: api.Waiting, Since: 3, Number: 1}
	if r, e := x.add(j, 3); r != want || e != api.OK {
		t.Error(r, e)
	}
	x.is(want)
	k := j
	k.Id = 4
	second := api.Record{Job: k, State: api.Waiting, Since: 0, Number: 2}
	if r, e := x.add(k, 0); r != second || e != api.OK {
		t.Error(r, e)
	}
	x.is(want)
	x.is(second)
	if l := x.b.All(); !slices.Equal(l, []api.Record{want, second}) {
		t.Error(l)
	}
}

// P11.2: an Id that is there already is refused, whatever else the job has, and whatever the gang is by then.
func TestAddTwice(t *testing.T) {
	for i, w := range paths() {
		x := made(t)
		x.goes(7, paths()[0])
		x.goes(8, w)
		x.goes(9, paths()[0])
		for _, id := range []int{7, 8, 9} {
			for _, j := range []api.Job{job(id, 2, 4, 10), {Id: id}, job(id, math.MinInt, math.MaxInt, 1)} {
				if r, e := x.add(j, i); r != (api.Record{}) || e != api.ErrTwice {
					t.Fatal(i, r, e)
				}
			}
		}
		x.adds(job(10, 1, 1, 1), 0)
	}
}

// P11.2: whatever a job and since are, they are told as they were added.
func TestFarJobs(t *testing.T) {
	x := made(t)
	for i, id := range far() {
		j := api.Job{Id: id, Queue: far()[i], Prio: math.MinInt, Runtime: math.MaxInt, Shape: api.Shape{Gpus: -1, Cpus: math.MaxInt, Min: 3, Max: math.MinInt}}
		want := api.Record{Job: j, State: api.Waiting, Since: far()[len(far())-1-i], Number: i + 1}
		if r, e := x.add(j, want.Since); r != want || e != api.OK {
			t.Fatal(r, e)
		}
		_, e := x.add(j, 1)
		x.must(e, api.ErrTwice)
	}
	for _, id := range []int{math.MinInt + 2, -1<<32 + 1, -1<<32 - 1, -65535, -3, 3, 6, 8, 65534, 65537, 1<<32 - 1, 1<<32 + 1, 1<<32 + 6, math.MaxInt - 2} {
		x.lacks(id)
	}
	for i, id := range far() {
		if r, e := x.get(id); r.Job.Id != id || r.Number != i+1 || e != api.OK {
			t.Fatal(r, e)
		}
		x.must(x.reserve(id, 3, 9, 1), api.ErrRange)
		x.must(x.turn(id, api.ToCancel), api.OK)
	}
}

// full is a book of 4096 waiting gangs, whose Ids fall, of 1 to 2 members each.
func full(t *testing.T) *pair {
	t.Helper()
	x := made(t)
	x.quiet = true
	for i := range 4096 {
		if r, e := x.add(job(5000-i, 1, 2, 7), i); r.Number != i+1 || e != api.OK {
			t.Fatal(i, r, e)
		}
	}
	x.same()
	return x
}

// P11.2: 4096 records, and one more; ErrTwice is ahead of ErrFull; nothing that happens makes room again.
func TestFull(t *testing.T) {
	x := full(t)
	refuses := func() {
		t.Helper()
		for _, id := range []int{5000, 2953, 905} {
			r, e := x.add(job(id, 1, 2, 7), 1)
			if r != (api.Record{}) || e != api.ErrTwice {
				t.Fatal(id, r, e)
			}
		}
		for _, id := range []int{5001, 904, 0, -1, math.MinInt, math.MaxInt} {
			r, e := x.add(job(id, 1, 2, 7), 1)
			if r != (api.Record{}) || e != api.ErrFull {
				t.Fatal(id, r, e)
			}
			x.lacks(id)
		}
	}
	refuses()
	// The first, the middle, the last.
	for i, id := range []int{5000, 2953, 905} {
		x.must(x.reserve(id, 1+i%2, 3, 4), api.OK)
		x.starts(id, 2, 9)
		x.must(x.turn(id, []int{api.ToFinish, api.ToKill, api.ToCancel}[i]), api.OK)
	}
	refuses()
	x.same()
	if n := len(x.b.In(api.Waiting)); n != 4093 {
		t.Error(n)
	}
}

// P11.2: of many, all are asked for, and in each state.
func TestMany(t *testing.T) {
	x := full(t)
	for i := range 4096 {
		id := 5000 - (i*1001)%4096
		for _, event := range paths()[i%len(paths())].events {
			switch event {
			case api.ToReserve:
				x.must(x.reserve(id, 1+i%2, i, 4), api.OK)
			case api.ToStart:
				x.starts(id, i, i+7)
			default:
				x.must(x.turn(id, event), api.OK)
			}
		}
	}
	x.same()
	for _, state := range states() {
		if len(x.b.In(state)) < 256 {
			t.Error(state, len(x.b.In(state)))
		}
	}
}

// P11.2: In of each state: of a book of which none is in it, some are, all are; of numbers that are no state.
func TestIn(t *testing.T) {
	for _, w := range paths() {
		none, some, all := made(t), made(t), made(t)
		var want, everyone []int
		for i := range 12 {
			id := (i*5 + 3) % 12
			all.goes(id, w)
			everyone = append(everyone, id)
			other := paths()[(i*7)%len(paths())]
			some.goes(id, other)
			if other.state == w.state {
				want = append(want, id)
			} else {
				none.goes(id, other)
			}
		}
		for _, c := range []struct {
			x    *pair
			want []int
		}{{none, nil}, {some, want}, {all, everyone}} {
			l := c.x.b.In(w.state)
			var ids []int
			for _, r := range l {
				ids = append(ids, r.Job.Id)
			}
			if !slices.Equal(ids, c.want) {
				t.Fatalf("In(%d) = %v, want %v", w.state, l, c.want)
			}
			for _, wrong := range wrongNumbers() {
				if l := c.x.b.In(wrong); len(l) != 0 {
					t.Fatalf("In(%d) = %v", wrong, l)
				}
			}
		}
	}
}

// P11.3: to one of each state, come there on each way, all that may happen, by itself and among others.
func TestEachHappens(t *testing.T) {
	for _, w := range paths() {
		for _, event := range events() {
			for others := range 3 {
				x := made(t)
				for id := range others {
					x.goes(id, paths()[3])
				}
				x.goes(7, w)
				for id := 8; id < 8+others; id++ {
					x.goes(id, paths()[5])
				}
				was, _ := x.get(7)
				to, e := gang.Next(w.state, event)
				x.must(x.happens(7, event), e)
				if r, _ := x.get(7); e == api.OK && r.State != to || e != api.OK && r != was {
					t.Fatalf("%v, then %d: %v", was, event, r)
				}
			}
		}
	}
}

// P11.3: the life of one that runs to its end, record by record.
func TestLife(t *testing.T) {
	x := made(t)
	j := job(9, 2, 4, 5)
	x.adds(j, 3)
	r := api.Record{Job: j, State: api.Waiting, Since: 3, Number: 1}
	x.must(x.reserve(9, 3, 7, 1), api.OK)
	r.State, r.Members, r.Limit, r.Worker = api.Reserved, 3, 7, 1
	x.is(r)
	x.starts(9, 6, 11)
	r.State, r.Limit, r.Worker, r.Began, r.End = api.Running, 0, 0, 6, 11
	x.is(r)
	x.must(x.resize(9, 1), api.OK)
	r.Members = 4
	x.is(r)
	x.must(x.turn(9, api.ToFinish), api.OK)
	r.State, r.Members = api.Finished, 0
	x.is(r)
}

// P11.3: one that is reserved, expires, and is reserved anew with other members, limit and worker; nothing of the first time stays.
func TestReservedAnew(t *testing.T) {
	x := made(t)
	j := job(9, 2, 4, 5)
	x.adds(j, 3)
	waits := api.Record{Job: j, State: api.Waiting, Since: 3, Number: 1}
	for i, now := range []int{0, 1, last, 7} {
		x.must(x.reserve(9, 2+i%3, now+4, 3-i), api.OK)
		r := waits
		r.State, r.Members, r.Limit, r.Worker = api.Reserved, 2+i%3, now+4, 3-i
		x.is(r)
		x.must(x.turn(9, api.ToExpire), api.OK)
		x.is(waits)
		x.refusesStart(9, now, api.ErrState)
		x.must(x.turn(9, api.ToExpire), api.ErrState)
	}
	x.must(x.reserve(9, 4, 8, 2), api.OK)
	x.starts(9, 0, 5)
	r := waits
	r.State, r.Members, r.Began, r.End = api.Running, 4, 0, 5
	x.is(r)
}

// P11.3: one that is cancelled while it waits, is reserved, runs; one that is killed while it is reserved, and runs.
func TestCutShort(t *testing.T) {
	j := job(9, 2, 4, 5)
	ended := func(state, began, end int) api.Record {
		return api.Record{Job: j, State: state, Since: 3, Number: 1, Began: began, End: end}
	}
	for _, c := range []struct {
		reserves, starts bool
		event            int
		want             api.Record
	}{
		{false, false, api.ToCancel, ended(api.Cancelled, 0, 0)},
		{true, false, api.ToCancel, ended(api.Cancelled, 0, 0)},
		{true, true, api.ToCancel, ended(api.Cancelled, 6, 11)},
		{true, false, api.ToKill, ended(api.Killed, 0, 0)},
		{true, true, api.ToKill, ended(api.Killed, 6, 11)},
		{true, true, api.ToFinish, ended(api.Finished, 6, 11)},
	} {
		x := made(t)
		x.adds(j, 3)
		if c.reserves {
			x.must(x.reserve(9, 3, 7, 1), api.OK)
		}
		if c.starts {
			x.starts(9, 6, 11)
		}
		x.must(x.turn(9, c.event), api.OK)
		x.is(c.want)
	}
}

// P11.4: a gang that is over stays as it is, whatever is asked.
func TestOverStays(t *testing.T) {
	for _, w := range paths() {
		if !gang.Over(w.state) {
			continue
		}
		x := made(t)
		x.goes(7, w)
		was, _ := x.get(7)
		for range 2 {
			for _, e := range x.everything(7) {
				x.must(e, api.ErrState)
			}
			for _, n := range far() {
				x.must(x.reserve(7, n, n, n), api.ErrState)
				x.refusesStart(7, n, api.ErrState)
				x.must(x.resize(7, n), api.ErrState)
				if e := x.turn(7, n); e != api.ErrRange {
					t.Fatal(n, e)
				}
			}
		}
		_, e := x.add(job(7, 1, 1, 1), 1)
		x.must(e, api.ErrTwice)
		x.is(was)
	}
}

// P11.3: members of just Min and just Max, one below and one above, and far away; Min and Max alike; a Min that is above Max.
func TestReserveMembers(t *testing.T) {
	for _, s := range [][2]int{{1, 16}, {1, 1}, {16, 16}, {2, 4}, {2, 3}, {0, 0}, {0, 1}, {-2, 2}, {-5, -5}, {4, 2}, {1, 0}, {math.MinInt, math.MaxInt}, {math.MaxInt, math.MaxInt}, {math.MinInt, math.MinInt}, {math.MaxInt, math.MinInt}} {
		least, most := s[0], s[1]
		for _, members := range slices.Concat([]int{least, most, least - 1, most + 1, least + 1, most - 1}, far()) {
			x := made(t)
			x.adds(job(8, 1, 16, 5), 0)
			x.adds(job(9, least, most, 5), 0)
			x.adds(job(10, 1, 16, 5), 0)
			want := api.ErrRange
			if least <= members && members <= most {
				want = api.OK
			}
			x.must(x.reserve(9, members, 7, 1), want)
			if want == api.OK {
				x.must(x.reserve(9, members, 7, 1), api.ErrState)
			} else if least <= most {
				x.must(x.reserve(9, least, 7, 1), api.OK)
			}
		}
	}
}

// P11.3: whatever limit and worker are, they are told as they were handed in, till the reservation is over.
func TestReserveFar(t *testing.T) {
	for _, limit := range far() {
		for _, worker := range far() {
			x := made(t)
			x.adds(job(9, 1, 2, 5), 1)
			x.must(x.reserve(9, 2, limit, worker), api.OK)
			x.is(api.Record{Job: job(9, 1, 2, 5), State: api.Reserved, Since: 1, Number: 1, Members: 2, Limit: limit, Worker: worker})
			x.starts(9, 3, 8)
			x.is(api.Record{Job: job(9, 1, 2, 5), State: api.Running, Since: 1, Number: 1, Members: 2, Began: 3, End: 8})
		}
	}
}

// P11.3: now of 0 and of 2^30, one below and one above, and far away; Runtimes of each kind, the sum modulo 2 to the 64.
func TestStart(t *testing.T) {
	for _, runtime := range slices.Concat(far(), []int{1024, 1025}) {
		for _, now := range slices.Concat(far(), []int{last - 1, -last}) {
			x := made(t)
			x.adds(job(9, 1, 2, runtime), 1)
			x.must(x.reserve(9, 1, 3, 2), api.OK)
			if now < 0 || now > 1<<30 {
				x.refusesStart(9, now, api.ErrRange)
				now = 1 << 30
			}
			x.starts(9, now, now+runtime)
			x.refusesStart(9, now, api.ErrState)
			x.is(api.Record{Job: job(9, 1, 2, runtime), State: api.Running, Since: 1, Number: 1, Members: 1, Began: now, End: now + runtime})
		}
	}
}

// P11.3: by 1 up to Max, and one more; by -1 down to Min, and one more; and by what may not be, wherever it stands.
func TestResize(t *testing.T) {
	wrong := []int{0, 2, -2, 3, -3, 15, 16, 1<<32 + 1, 1<<32 - 1, -1 << 32, math.MinInt, math.MinInt + 1, math.MaxInt - 1, math.MaxInt}
	for _, s := range [][3]int{{1, 16, 1}, {1, 16, 16}, {1, 16, 7}, {3, 3, 3}, {1, 1, 1}, {2, 4, 3}, {0, 1, 0}, {-1, 1, 0}, {-3, -1, -2}} {
		least, most, members := s[0], s[1], s[2]
		x := made(t)
		x.goes(8, paths()[5])
		x.adds(job(9, least, most, 5), 0)
		x.goes(10, paths()[5])
		x.must(x.reserve(9, members, 1, 1), api.OK)
		x.must(x.resize(9, 1), api.ErrState)
		x.starts(9, 3, 8)
		refusesWrong := func() {
			for _, by := range wrong {
				x.must(x.resize(9, by), api.ErrRange)
			}
		}
		refusesWrong()
		for n := members; n < most; n++ {
			x.must(x.resize(9, 1), api.OK)
		}
		x.must(x.resize(9, 1), api.ErrRange)
		refusesWrong()
		for n := most; n > least; n-- {
			x.must(x.resize(9, -1), api.OK)
		}
		x.must(x.resize(9, -1), api.ErrRange)
		refusesWrong()
		if r, _ := x.get(9); r.Members != least || r.Began != 3 || r.End != 8 {
			t.Error(r)
		}
	}
}

// P11.3: far members change modulo 2 to the 64: one more than the most that can be is the least.
func TestResizeFar(t *testing.T) {
	x := made(t)
	x.adds(job(1, math.MinInt, math.MaxInt, 5), 0)
	x.adds(job(2, 1, math.MaxInt, 5), 0)
	x.adds(job(3, math.MinInt, 1, 5), 0)
	for id, members := range []int{0, math.MaxInt, math.MaxInt, math.MinInt} {
		if id > 0 {
			x.must(x.reserve(id, members, 1, 1), api.OK)
			x.starts(id, 3, 8)
		}
	}
	x.must(x.resize(1, 1), api.OK)
	if r, _ := x.get(1); r.Members != math.MinInt {
		t.Error(r)
	}
	x.must(x.resize(1, -1), api.OK)
	x.must(x.resize(2, 1), api.ErrRange)
	x.must(x.resize(3, -1), api.ErrRange)
}

// P11.3: Turn is of four things alone; what it can't be asked for is ErrRange even of one to which it may happen.
func TestTurnWrong(t *testing.T) {
	for _, w := range paths() {
		x := made(t)
		x.goes(7, w)
		for _, event := range slices.Concat([]int{api.ToReserve, api.ToStart}, wrongNumbers()) {
			x.must(x.turn(7, event), api.ErrRange)
		}
	}
}

// P11.3: several errors at once: ErrNone is ahead of all, then come ErrState and ErrRange, of Turn ErrRange and ErrState.
func TestErrorOrder(t *testing.T) {
	x := made(t)
	for i, w := range paths() {
		x.goes(i, w)
	}
	for _, id := range []int{-1, 99, math.MinInt, math.MaxInt} {
		for _, n := range far() {
			x.must(x.reserve(id, n, n, n), api.ErrNone)
			x.refusesStart(id, n, api.ErrNone)
			x.must(x.turn(id, n), api.ErrNone)
			x.must(x.resize(id, n), api.ErrNone)
		}
		x.must(x.turn(id, api.ToStart), api.ErrNone)
		x.lacks(id)
	}
	for i, w := range paths() {
		if w.state != api.Waiting {
			x.must(x.reserve(i, 1, 9, 1), api.ErrState)
			x.must(x.reserve(i, 5, 9, 1), api.ErrState)
		}
		if w.state != api.Reserved {
			x.refusesStart(i, -1, api.ErrState)
			x.refusesStart(i, last+1, api.ErrState)
		}
		if w.state != api.Running {
			for _, by := range []int{0, 1, -1, 2, math.MinInt} {
				x.must(x.resize(i, by), api.ErrState)
			}
		}
		x.must(x.turn(i, api.ToReserve), api.ErrRange)
		x.must(x.turn(i, 7), api.ErrRange)
	}
}

// P11.2, P11.3: of the first, a middle and the last of many, each is changed by itself.
func TestFirstMiddleLast(t *testing.T) {
	for _, n := range []int{1, 2, 3, 9, 40} {
		for _, at := range []int{0, n / 2, n - 1} {
			x := made(t)
			for i := range n {
				x.adds(job(n-i, 2, 4, i), i)
			}
			id := n - at
			x.must(x.reserve(id, 3, 9, 2), api.OK)
			x.starts(id, 4, 4+at)
			x.must(x.resize(id, -1), api.OK)
			x.must(x.turn(id, api.ToKill), api.OK)
			for i, r := range x.b.All() {
				if (r.State == api.Killed) != (i == at) {
					t.Fatal(n, at, r)
				}
			}
		}
	}
}

// P11.2: what is told can be written to and appended to; the book, and what it told besides, stay as they are.
func TestToldApart(t *testing.T) {
	x := made(t)
	for i, w := range paths() {
		x.goes(i, w)
	}
	spoil := func(l []api.Record) {
		_ = append(l, api.Record{Number: 99})
		for i := range l[:cap(l)] {
			l[:cap(l)][i] = api.Record{Job: api.Job{Id: -1}, State: 99, Members: 5}
		}
	}
	first, second := x.b.All(), x.b.All()
	spoil(first)
	if !slices.Equal(second, x.p.all()) {
		t.Error(second)
	}
	x.same()
	for _, state := range states() {
		a, b := x.b.In(state), x.b.In(state)
		spoil(a)
		if !slices.Equal(b, x.p.in(state)) {
			t.Error(b)
		}
		x.same()
	}
	// What was told stays so, whatever comes behind it.
	x.must(x.reserve(0, 2, 9, 1), api.OK)
	x.adds(job(50, 2, 4, 1), 1)
	if second[0].State != api.Waiting || len(second) != len(paths()) {
		t.Error(second)
	}
}

// P11.2: two Books have nothing in common.
func TestTwoBooks(t *testing.T) {
	x, y := made(t), made(t)
	x.goes(7, paths()[5])
	y.lacks(7)
	y.goes(7, paths()[3])
	y.goes(8, paths()[0])
	x.lacks(8)
	x.must(x.turn(7, api.ToFinish), api.OK)
	x.same()
	y.same()
	y.starts(7, 3, 13)
	if r, _ := x.get(7); r.State != api.Finished || r.Number != 1 {
		t.Error(r)
	}
	x.same()
	y.same()
}

// drawn is one of what drawn rows are made of: an Id, mostly of those that are there; a number, mostly a small one.
func drawnId(d *draws) int {
	if d.below(12) == 0 {
		return far()[d.below(len(far()))]
	}
	return d.below(24)
}

func drawn(d *draws, n int) int {
	if d.below(12) == 0 {
		return far()[d.below(len(far()))]
	}
	return d.below(n)
}

// step asks one call, drawn of all kinds.
func (x *pair) step(d *draws) api.Errno {
	x.Helper()
	id := drawnId(d)
	switch d.below(7) {
	case 0:
		_, e := x.add(job(id, drawn(d, 3), 1+drawn(d, 4), drawn(d, 9)), drawn(d, 9))
		return e
	case 1, 2:
		return x.reserve(id, drawn(d, 5), drawn(d, 9), drawn(d, 4))
	case 3:
		_, e := x.start(id, drawn(d, 99))
		return e
	case 4:
		// Mostly what leaves a gang a life.
		if d.below(4) > 0 {
			return x.turn(id, api.ToExpire)
		}
		return x.turn(id, drawn(d, 8))
	default:
		return x.resize(id, 2*d.below(2)-1)
	}
}

// P11.1 to P11.4: rows of calls of all kinds; behind each of them, all that can be told is as it is plainly so.
func TestRows(t *testing.T) {
	seen := map[api.Errno]int{}
	for seed := range 60 {
		d := draws(seed*7919 + 1)
		x := made(t)
		for range 300 {
			seen[x.step(&d)]++
		}
	}
	for _, e := range []api.Errno{api.OK, api.ErrRange, api.ErrNone, api.ErrTwice, api.ErrState} {
		if seen[e] < 200 {
			t.Error(e, seen[e])
		}
	}
}

// P11.2, P11.3: the same calls answer the same, whichever book they are asked of.
func TestSame(t *testing.T) {
	for seed := range 10 {
		c, d := draws(seed+5), draws(seed+5)
		x, y := made(t), made(t)
		for range 150 {
			if a, b := x.step(&c), y.step(&d); a != b {
				t.Fatal(seed, a, b)
			}
		}
		if !slices.Equal(x.b.All(), y.b.All()) {
			t.Fatal(seed)
		}
	}
}
