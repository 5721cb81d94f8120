package sched

import (
	"errors"
	"strconv"

	"ensemble/api"
	"ensemble/gang"
	"ensemble/pack"
	"ensemble/shape"
)

// refusal is the error of an act that isn't done.
type refusal struct {
	errno api.Errno
}

func (r refusal) Error() string {
	return "sched: refused with error " + strconv.Itoa(int(r.errno))
}

// errnoOf is the number of an act's error.
func errnoOf(err error) api.Errno {
	var r refusal
	if errors.As(err, &r) {
		return r.errno
	}
	return api.OK
}

// deeds is what each Kind of act does to this system.
func (s *System) deeds() map[int]deed {
	return map[int]deed{
		api.Submit:  s.submit,
		api.Cancel:  s.cancel,
		api.Finish:  s.finish,
		api.Drain:   s.drain,
		api.Undrain: s.undrain,
		api.Tick:    s.tick,
		api.Pick:    s.pick,
		api.Shrink:  s.shrink,
	}
}

// submit lets a gang wait.
func (s *System) submit(a api.Act) ([]api.Event, error) {
	if e := s.check(a.Job); e != api.OK {
		return nil, refusal{e}
	}
	r, e := s.book.Add(a.Job, s.now)
	if e != api.OK {
		return nil, refusal{e}
	}
	s.queues.Add(api.Wait{Job: r.Job, Since: r.Since, Number: r.Number})
	return told(api.Queued, r.Job.Id, r.Number), nil
}

// check asks of a job all but whether the book is full.
func (s *System) check(j api.Job) api.Errno {
	if !s.jobMayBe(j) {
		return api.ErrRange
	}
	if !within(j.Queue, 0, len(s.quotas)-1) {
		return api.ErrNone
	}
	if _, e := s.book.Get(j.Id); e == api.OK {
		return api.ErrTwice
	}
	if pack.Room(s.topo.All(), j.Shape) < j.Shape.Min {
		return api.ErrFit
	}
	quota := s.quotas[j.Queue]
	if u, _ := shape.Units(j.Shape, j.Shape.Min); u.Gpus > quota.Gpus || u.Cpus > quota.Cpus {
		return api.ErrQuota
	}
	if s.queues.Room(j.Queue) == 0 {
		return api.ErrFull
	}
	return api.OK
}

func (s *System) jobMayBe(j api.Job) bool {
	return within(j.Id, 1, api.MaxId) && within(j.Prio, 0, api.MaxPrio) && within(j.Runtime, 1, s.runtime) && shape.Check(j.Shape) == api.OK
}

// cancel ends a gang that isn't over.
func (s *System) cancel(a api.Act) ([]api.Event, error) {
	if r, e := s.book.Get(a.N); e != api.OK || gang.Over(r.State) {
		return nil, refusal{api.ErrNone}
	}
	s.end(a.N, api.ToCancel)
	return told(api.Gone, a.N, 0), nil
}

// finish ends a gang that runs.
func (s *System) finish(a api.Act) ([]api.Event, error) {
	if _, err := s.running(a.N); err != nil {
		return nil, err
	}
	s.end(a.N, api.ToFinish)
	return told(api.Ended, a.N, 0), nil
}

// drain kills all who have a slot of a node, which isn't to be used any more.
func (s *System) drain(a api.Act) ([]api.Event, error) {
	ids, e := s.ledger.Drain(a.N)
	if e != api.OK {
		return nil, refusal{e}
	}
	events := s.kill(ids, 0)
	s.promiseHead()
	return events, nil
}

// undrain lets a node be used again.
func (s *System) undrain(a api.Act) ([]api.Event, error) {
	if e := s.ledger.Undrain(a.N); e != api.OK {
		return nil, refusal{e}
	}
	s.promiseHead()
	return nil, nil
}

// tick makes now one more, and kills all whose time is over then.
func (s *System) tick(api.Act) ([]api.Event, error) {
	if s.now == api.MaxTick {
		return nil, refusal{api.ErrLate}
	}
	s.now++
	return s.kill(s.ends.Due(s.now), 1), nil
}

// pick lets a worker step.
func (s *System) pick(a api.Act) ([]api.Event, error) {
	if !within(a.N, 0, len(s.workers)-1) {
		return nil, refusal{api.ErrNone}
	}
	return s.step(a.N), nil
}

// shrink takes the last member off a gang that runs and can do without.
func (s *System) shrink(a api.Act) ([]api.Event, error) {
	r, err := s.running(a.N)
	if err != nil {
		return nil, err
	}
	if r.Members <= r.Job.Shape.Min {
		return nil, refusal{api.ErrState}
	}
	s.ledger.Shrink(a.N)
	s.book.Resize(a.N, -1)
	return told(api.Shrunk, a.N, r.Members-1), nil
}

// running is the record of a gang that runs.
func (s *System) running(id int) (api.Record, error) {
	r, e := s.book.Get(id)
	if e != api.OK || r.State != api.Running {
		return api.Record{}, refusal{api.ErrNone}
	}
	return r, nil
}

// kill ends gangs, and tells of each why.
func (s *System) kill(ids []int, why int) []api.Event {
	var events []api.Event
	for _, id := range ids {
		s.end(id, api.ToKill)
		events = append(events, api.Event{Kind: api.Dead, Id: id, N: why})
	}
	return events
}

// end frees a gang, to which this happens, for ever.
func (s *System) end(id, event int) {
	// Who waits has no hold, and who runs no wait any more: of these there is nothing to be taken away.
	s.ledger.Release(id)
	s.ends.Drop(id)
	s.queues.Remove(id)
	s.letGo(id)
	if s.head == id {
		s.head, s.promise = 0, 0
	}
	s.book.Turn(id, event)
}

// letGo makes the worker that holds a gang, if there is one, hold nobody.
func (s *System) letGo(id int) {
	for k, held := range s.workers {
		if held == id {
			s.workers[k] = 0
		}
	}
}

// told is a single event.
func told(kind, id, n int) []api.Event {
	return []api.Event{{Kind: kind, Id: id, N: n}}
}
