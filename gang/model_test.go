package gang_test

import (
	"math"
	"slices"
	"testing"

	"ensemble/api"
	"ensemble/gang"
)

const last = 1 << 30

// states and events are all that there are.
func states() []int { return []int{1, 2, 3, 4, 5, 6} }
func events() []int { return []int{1, 2, 3, 4, 5, 6} }

// wrongNumbers are numbers of which there is neither a state nor anything that may happen.
func wrongNumbers() []int {
	return []int{0, 7, -1, 8, -2, -3, -6, 9, 100, 256, 257, 1<<32 + 1, 1<<32 + 2, -1 << 32, math.MinInt, math.MinInt + 1, math.MinInt + 2, math.MaxInt - 1, math.MaxInt}
}

// far are numbers of each kind.
func far() []int {
	return []int{math.MinInt, math.MinInt + 1, -1 << 32, -65536, -7, -2, -1, 0, 1, 2, 7, 65535, 65536, last, last + 1, 1 << 32, 1<<32 + 7, math.MaxInt - 1, math.MaxInt}
}

// plainNext is the chapter's table, told as a grid: a row for each state, in it what each event leads to; 0, if it may not happen.
func plainNext(state, event int) int {
	return [6][6]int{
		{2, 0, 0, 0, 0, 6},
		{0, 3, 1, 0, 5, 6},
		{0, 0, 0, 4, 5, 6},
	}[state-1][event-1]
}

// job is one of an Id, a shape's Min and Max, and a Runtime; the rest tells it from others.
func job(id, least, most, runtime int) api.Job {
	return api.Job{Id: id, Queue: 3, Prio: id + 1, Runtime: runtime, Shape: api.Shape{Gpus: 2, Cpus: 5, Min: least, Max: most}}
}

// life is a gang told plainly: all that was ever told of it, whatever of that still holds.
type life struct {
	job                    api.Job
	since, state           int
	members, limit, worker int
	everStarted            bool
	began                  int
}

// book is a book told plainly.
type book struct{ lives []life }

func (p *book) at(id int) int {
	return slices.IndexFunc(p.lives, func(l life) bool { return l.job.Id == id })
}

// told is the k-th gang's record: by its state, what of its life holds.
func (p *book) told(k int) api.Record {
	l := p.lives[k]
	r := api.Record{Job: l.job, State: l.state, Since: l.since, Number: k + 1}
	if l.state == api.Reserved {
		r.Members, r.Limit, r.Worker = l.members, l.limit, l.worker
	}
	if l.state == api.Running {
		r.Members = l.members
	}
	if l.everStarted {
		r.Began, r.End = l.began, l.began+l.job.Runtime
	}
	return r
}

func (p *book) all() []api.Record {
	var all []api.Record
	for k := range p.lives {
		all = append(all, p.told(k))
	}
	return all
}

func (p *book) in(state int) []api.Record {
	return slices.DeleteFunc(p.all(), func(r api.Record) bool { return r.State != state })
}

func (p *book) get(id int) (api.Record, api.Errno) {
	if k := p.at(id); k >= 0 {
		return p.told(k), api.OK
	}
	return api.Record{}, api.ErrNone
}

func (p *book) add(j api.Job, since int) (api.Record, api.Errno) {
	switch {
	case p.at(j.Id) >= 0:
		return api.Record{}, api.ErrTwice
	case len(p.lives) == 4096:
		return api.Record{}, api.ErrFull
	}
	p.lives = append(p.lives, life{job: j, since: since, state: api.Waiting})
	return p.told(len(p.lives) - 1), api.OK
}

func (p *book) reserve(id, members, limit, worker int) api.Errno {
	k := p.at(id)
	if k < 0 {
		return api.ErrNone
	}
	l := &p.lives[k]
	if l.state != api.Waiting {
		return api.ErrState
	}
	if members < l.job.Shape.Min || members > l.job.Shape.Max {
		return api.ErrRange
	}
	l.state, l.members, l.limit, l.worker = api.Reserved, members, limit, worker
	return api.OK
}

func (p *book) start(id, now int) (int, api.Errno) {
	k := p.at(id)
	if k < 0 {
		return 0, api.ErrNone
	}
	l := &p.lives[k]
	if l.state != api.Reserved {
		return 0, api.ErrState
	}
	if now < 0 || now > last {
		return 0, api.ErrRange
	}
	l.state, l.everStarted, l.began = api.Running, true, now
	return now + l.job.Runtime, api.OK
}

func (p *book) turn(id, event int) api.Errno {
	k := p.at(id)
	if k < 0 {
		return api.ErrNone
	}
	if event < 3 || event > 6 {
		return api.ErrRange
	}
	to := plainNext(p.lives[k].state, event)
	if to == 0 {
		return api.ErrState
	}
	p.lives[k].state = to
	return api.OK
}

func (p *book) resize(id, by int) api.Errno {
	k := p.at(id)
	if k < 0 {
		return api.ErrNone
	}
	l := &p.lives[k]
	if l.state != api.Running {
		return api.ErrState
	}
	if by != 1 && by != -1 || l.members+by < l.job.Shape.Min || l.members+by > l.job.Shape.Max {
		return api.ErrRange
	}
	l.members += by
	return api.OK
}

// pair is a book, and what is plainly told of it.
type pair struct {
	*testing.T
	b *gang.Book
	p *book
	// quiet is set of books of so many that they aren't looked at whole behind each call.
	quiet bool
}

func made(t *testing.T) *pair {
	t.Helper()
	b := gang.New()
	if b == nil {
		t.Fatal("New() = nil")
	}
	x := &pair{T: t, b: b, p: &book{}}
	x.same()
	return x
}

// Each of the following asks both, and holds what is answered, and all that can be told behind it, against each other.

func (x *pair) add(j api.Job, since int) (api.Record, api.Errno) {
	x.Helper()
	want, wantE := x.p.add(j, since)
	if r, e := x.b.Add(j, since); r != want || e != wantE {
		x.Fatalf("Add(%v, %d) = %v, %d, want %v, %d", j, since, r, e, want, wantE)
	}
	x.behind(j.Id)
	return want, wantE
}

func (x *pair) reserve(id, members, limit, worker int) api.Errno {
	x.Helper()
	want := x.p.reserve(id, members, limit, worker)
	if e := x.b.Reserve(id, members, limit, worker); e != want {
		x.Fatalf("Reserve(%d, %d, %d, %d) = %d, want %d", id, members, limit, worker, e, want)
	}
	x.behind(id)
	return want
}

func (x *pair) start(id, now int) (int, api.Errno) {
	x.Helper()
	want, wantE := x.p.start(id, now)
	if n, e := x.b.Start(id, now); n != want || e != wantE {
		x.Fatalf("Start(%d, %d) = %d, %d, want %d, %d", id, now, n, e, want, wantE)
	}
	x.behind(id)
	return want, wantE
}

func (x *pair) turn(id, event int) api.Errno {
	x.Helper()
	want := x.p.turn(id, event)
	if e := x.b.Turn(id, event); e != want {
		x.Fatalf("Turn(%d, %d) = %d, want %d", id, event, e, want)
	}
	x.behind(id)
	return want
}

func (x *pair) resize(id, by int) api.Errno {
	x.Helper()
	want := x.p.resize(id, by)
	if e := x.b.Resize(id, by); e != want {
		x.Fatalf("Resize(%d, %d) = %d, want %d", id, by, e, want)
	}
	x.behind(id)
	return want
}

func (x *pair) get(id int) (api.Record, api.Errno) {
	x.Helper()
	want, wantE := x.p.get(id)
	if r, e := x.b.Get(id); r != want || e != wantE {
		x.Fatalf("Get(%d) = %v, %d, want %v, %d", id, r, e, want, wantE)
	}
	return want, wantE
}

func (x *pair) behind(id int) {
	x.Helper()
	if x.quiet {
		x.get(id)
		return
	}
	x.same(id)
}

// same holds all that the book tells against what is plainly so; of Ids too that may not be there.
func (x *pair) same(ids ...int) {
	x.Helper()
	all := x.b.All()
	if want := x.p.all(); !slices.Equal(all, want) {
		x.Fatalf("All() = %v, want %v", all, want)
	}
	sum := 0
	for _, state := range states() {
		l := x.b.In(state)
		if want := x.p.in(state); !slices.Equal(l, want) {
			x.Fatalf("In(%d) = %v, want %v", state, l, want)
		}
		sum += len(l)
	}
	if sum != len(all) {
		x.Fatalf("All() = %v, but in all states there are %d", all, sum)
	}
	for k, r := range all {
		if r.Number != k+1 {
			x.Fatalf("All()[%d] = %v", k, r)
		}
		x.sound(r)
		ids = append(ids, r.Job.Id)
	}
	for _, id := range ids {
		x.get(id)
	}
}

// sound holds a record to be one that a book may have.
func (x *pair) sound(r api.Record) {
	x.Helper()
	held, runs, over := r.State == api.Reserved, r.State == api.Running, gang.Over(r.State)
	switch {
	case !held && (r.Limit != 0 || r.Worker != 0),
		!held && !runs && r.Members != 0,
		(held || runs) && (r.Members < r.Job.Shape.Min || r.Members > r.Job.Shape.Max),
		!runs && !over && (r.Began != 0 || r.End != 0),
		runs && r.End != r.Began+r.Job.Runtime:
		x.Fatalf("%v may not be", r)
	}
}

// lacks holds an Id to be one of which there is no record, whatever is asked of it.
func (x *pair) lacks(id int) {
	x.Helper()
	if r, e := x.get(id); r != (api.Record{}) || e != api.ErrNone {
		x.Fatalf("Get(%d) = %v, %d", id, r, e)
	}
	for _, e := range x.everything(id) {
		if e != api.ErrNone {
			x.Fatalf("of %d, which isn't there: %d", id, e)
		}
	}
}

// everything asks all that may be asked of a gang so that it can be refused alone for what it is.
func (x *pair) everything(id int) []api.Errno {
	x.Helper()
	least := 1
	if r, e := x.get(id); e == api.OK {
		least = r.Job.Shape.Min
	}
	_, started := x.start(id, 5)
	l := []api.Errno{started, x.reserve(id, least, 9, 1), x.resize(id, 1), x.resize(id, -1)}
	for event := api.ToExpire; event <= api.ToCancel; event++ {
		l = append(l, x.turn(id, event))
	}
	return l
}

// must holds an error against one.
func (x *pair) must(e, want api.Errno) {
	x.Helper()
	if e != want {
		x.Fatalf("%d, want %d", e, want)
	}
}

// adds adds a job, which must go.
func (x *pair) adds(j api.Job, since int) {
	x.Helper()
	_, e := x.add(j, since)
	x.must(e, api.OK)
}

// starts starts a gang, and holds its End against one.
func (x *pair) starts(id, now, end int) {
	x.Helper()
	if n, e := x.start(id, now); n != end || e != api.OK {
		x.Fatalf("Start(%d, %d) = %d, %d, want %d", id, now, n, e, end)
	}
}

// refusesStart holds a start to be refused, with nothing beside the error.
func (x *pair) refusesStart(id, now int, want api.Errno) {
	x.Helper()
	if n, e := x.start(id, now); n != 0 || e != want {
		x.Fatalf("Start(%d, %d) = %d, %d, want %d", id, now, n, e, want)
	}
}

// is holds a gang's record against one.
func (x *pair) is(want api.Record) {
	x.Helper()
	if r, e := x.b.Get(want.Job.Id); r != want || e != api.OK {
		x.Fatalf("Get(%d) = %v, %d, want %v", want.Job.Id, r, e, want)
	}
}

// path is a way to a state: what happens to a gang, one behind the other, that is added.
type path struct {
	events []int
	state  int
}

// paths are ways to all states, by all that leads there; a gang is reserved anew in some.
func paths() []path {
	return []path{
		{nil, api.Waiting},
		{[]int{api.ToReserve, api.ToExpire}, api.Waiting},
		{[]int{api.ToReserve, api.ToExpire, api.ToReserve, api.ToExpire}, api.Waiting},
		{[]int{api.ToReserve}, api.Reserved},
		{[]int{api.ToReserve, api.ToExpire, api.ToReserve}, api.Reserved},
		{[]int{api.ToReserve, api.ToStart}, api.Running},
		{[]int{api.ToReserve, api.ToExpire, api.ToReserve, api.ToStart}, api.Running},
		{[]int{api.ToReserve, api.ToStart, api.ToFinish}, api.Finished},
		{[]int{api.ToReserve, api.ToExpire, api.ToReserve, api.ToStart, api.ToFinish}, api.Finished},
		{[]int{api.ToReserve, api.ToKill}, api.Killed},
		{[]int{api.ToReserve, api.ToExpire, api.ToReserve, api.ToKill}, api.Killed},
		{[]int{api.ToReserve, api.ToStart, api.ToKill}, api.Killed},
		{[]int{api.ToCancel}, api.Cancelled},
		{[]int{api.ToReserve, api.ToExpire, api.ToCancel}, api.Cancelled},
		{[]int{api.ToReserve, api.ToCancel}, api.Cancelled},
		{[]int{api.ToReserve, api.ToStart, api.ToCancel}, api.Cancelled},
	}
}

// happens lets something happen to a gang, by the call that is there for it.
func (x *pair) happens(id, event int) api.Errno {
	x.Helper()
	switch event {
	case api.ToReserve:
		return x.reserve(id, 3, 70+id, 2)
	case api.ToStart:
		_, e := x.start(id, 40+id)
		return e
	default:
		return x.turn(id, event)
	}
}

// goes adds a gang of 2 to 4 members, and lets it go such a way.
func (x *pair) goes(id int, w path) {
	x.Helper()
	x.adds(job(id, 2, 4, 10), 6)
	for _, event := range w.events {
		x.must(x.happens(id, event), api.OK)
	}
	if r, _ := x.get(id); r.State != w.state {
		x.Fatalf("behind %v: %v", w.events, r)
	}
}

// draws is a fixed row of numbers.
type draws uint64

func (d *draws) below(n int) int {
	*d ^= *d << 13
	*d ^= *d >> 7
	*d ^= *d << 17
	return int(uint64(*d>>11) % uint64(n))
}
