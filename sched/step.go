package sched

import (
	"ensemble/api"
	"ensemble/promise"
	"ensemble/worker"
)

// step is a worker's: late reservations are over, whoever made them; then it starts whom it holds, or looks for what there is to do.
func (s *System) step(n int) []api.Event {
	events := s.expire()
	if s.workers[n] != 0 {
		return append(events, s.start(n))
	}
	if s.findHead() {
		events = append(events, api.Event{Kind: api.Headed, Id: s.head, N: s.promise})
	}
	return append(events, s.choose(n))
}

// expire lets all reservations go that are late. Their gangs never left their queues.
func (s *System) expire() []api.Event {
	var events []api.Event
	headToo := false
	for _, id := range s.ledger.Expire(s.now) {
		s.letGo(id)
		s.book.Turn(id, api.ToExpire)
		events = append(events, api.Event{Kind: api.Expired, Id: id})
		headToo = headToo || id == s.head
	}
	if headToo {
		s.promiseHead()
	}
	return events
}

// start lets the gang run that a worker holds.
func (s *System) start(n int) api.Event {
	id := s.workers[n]
	end, _ := s.book.Start(id, s.now)
	// It can't be late: then it would have expired.
	s.ledger.Commit(id, s.now, end)
	// An end behind the last tick is refused; it doesn't come.
	s.ends.Set(id, end)
	s.queues.Remove(id)
	s.workers[n] = 0
	if s.head == id {
		s.head, s.promise = 0, 0
	}
	r, _ := s.book.Get(id)
	return api.Event{Kind: api.Started, Id: id, N: r.Members}
}

// findHead makes the first one that waits the head, if there is none; it tells whether there is one now that wasn't.
func (s *System) findHead() bool {
	if s.head != 0 {
		return false
	}
	waits := s.waits()
	if len(waits) == 0 {
		return false
	}
	s.head = waits[0].Job.Id
	s.promiseHead()
	return true
}

// promiseHead promises the head, if there is one, the tick at which its least members can start at the latest.
func (s *System) promiseHead() {
	if s.head == 0 {
		return
	}
	r, _ := s.book.Get(s.head)
	j := r.Job
	left, _ := s.ledger.Left(j.Queue)
	w := api.Want{Queue: j.Queue, Members: j.Shape.Min, Shape: j.Shape}
	// Nobody holds a slot of a drained node, so all that ends can be put to the view.
	s.promise, _ = promise.Earliest(s.now, s.ledger.View(), left, s.holdsAsTheyEnd(), w)
}

// choose does what a worker that holds nobody chooses. Nothing of it is refused: it was chosen of what is there now.
func (s *System) choose(n int) api.Event {
	c := worker.Choose(s.Look())
	switch c.Do {
	case api.Head, api.Fill:
		return s.take(n, c)
	case api.Grow:
		return s.grow(c)
	}
	return api.Event{Kind: api.Idle}
}

// take reserves what was chosen for a gang that waits, which the worker holds then.
func (s *System) take(n int, c api.Choice) api.Event {
	r, _ := s.book.Get(c.Id)
	until := s.now + s.timeout
	s.ledger.Reserve(c.Id, r.Job.Queue, until, s.ledger.Version(), c.Slots)
	s.book.Reserve(c.Id, len(c.Slots), until, n)
	s.workers[n] = c.Id
	return api.Event{Kind: api.Took, Id: c.Id, N: len(c.Slots)}
}

// grow gives a gang that runs the slot that was chosen.
func (s *System) grow(c api.Choice) api.Event {
	s.ledger.Grow(c.Id, c.Slots[0])
	s.book.Resize(c.Id, 1)
	r, _ := s.book.Get(c.Id)
	return api.Event{Kind: api.Grown, Id: c.Id, N: r.Members}
}
