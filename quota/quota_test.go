package quota_test

import (
	"fmt"
	"math"
	"slices"
	"testing"

	"ensemble/api"
	"ensemble/quota"
)

const most = api.MaxUnits

// units are so many of both kinds.
func units(gpus, cpus int) api.Units { return api.Units{Gpus: gpus, Cpus: cpus} }

// alike is so many quotas.
func alike(n int, u api.Units) []api.Units { return slices.Repeat([]api.Units{u}, n) }

func made(t *testing.T, quotas ...api.Units) *quota.Accounts {
	t.Helper()
	a, e := quota.New(quotas)
	if a == nil || e != api.OK {
		t.Fatalf("New(%v) = %v, %d", quotas, a, e)
	}
	return a
}

func add(t *testing.T, a *quota.Accounts, queue int, u api.Units) {
	t.Helper()
	if e := a.Add(queue, u); e != api.OK {
		t.Fatalf("Add(%d, %v) = %d", queue, u, e)
	}
}

func sub(t *testing.T, a *quota.Accounts, queue int, u api.Units) {
	t.Helper()
	if e := a.Sub(queue, u); e != api.OK {
		t.Fatalf("Sub(%d, %v) = %d", queue, u, e)
	}
}

// told is all that accounts tell, as a text.
func told(a *quota.Accounts) string {
	var left []string
	for q := -2; q < 12; q++ {
		u, e := a.Left(q)
		left = append(left, fmt.Sprint(u, int(e)))
	}
	return fmt.Sprint(a.Queues(), a.Used(), left)
}

// wrongUnits are units that may not be, and with them what may be of the other kind.
func wrongUnits() []api.Units {
	var l []api.Units
	for _, wrong := range []int{-1, most + 1, math.MinInt, math.MaxInt, math.MinInt + 1, -most, 1 << 32, -1 << 32} {
		for _, other := range []int{0, 1, most, wrong} {
			l = append(l, units(wrong, other), units(other, wrong))
		}
	}
	return l
}

// wrongQueues are numbers of no queue, where there are n.
func wrongQueues(n int) []int {
	return []int{-1, n, n + 1, 8, 9, -n, -n - 1, math.MinInt, math.MaxInt, 1 << 32, -1 << 32, 1<<63 - 8}
}

// slowKind counts one kind of one queue, unit by unit.
type slowKind struct{ quota, used int }

// add adds n units, one by one, or none.
func (k *slowKind) add(n int) bool {
	was := *k
	for range n {
		if k.used++; k.used > k.quota {
			*k = was
			return false
		}
	}
	return true
}

// sub takes n units off, one by one, or none.
func (k *slowKind) sub(n int) bool {
	was := *k
	for range n {
		if k.used--; k.used < 0 {
			*k = was
			return false
		}
	}
	return true
}

// slowAccounts has each queue's Gpus and Cpus.
type slowAccounts [][2]slowKind

func slowMade(quotas []api.Units) slowAccounts {
	var s slowAccounts
	for _, u := range quotas {
		s = append(s, [2]slowKind{{quota: u.Gpus}, {quota: u.Cpus}})
	}
	return s
}

// call asks what P6.1 names, in its order; what one kind allows is undone, if the other one doesn't.
func (s slowAccounts) call(isSub bool, queue int, u api.Units) api.Errno {
	if queue < 0 || queue >= len(s) {
		return api.ErrNone
	}
	if min(u.Gpus, u.Cpus) < 0 || max(u.Gpus, u.Cpus) > most {
		return api.ErrRange
	}
	was := s[queue]
	do, e := (*slowKind).add, api.ErrQuota
	if isSub {
		do, e = (*slowKind).sub, api.ErrLost
	}
	if do(&s[queue][0], u.Gpus) && do(&s[queue][1], u.Cpus) {
		return api.OK
	}
	s[queue] = was
	return e
}

func (s slowAccounts) told() string {
	var used []api.Units
	for _, k := range s {
		used = append(used, units(k[0].used, k[1].used))
	}
	var left []string
	for q := -2; q < 12; q++ {
		if q < 0 || q >= len(s) {
			left = append(left, fmt.Sprint(api.Units{}, int(api.ErrNone)))
		} else {
			left = append(left, fmt.Sprint(units(s[q][0].quota-s[q][0].used, s[q][1].quota-s[q][1].used), int(api.OK)))
		}
	}
	return fmt.Sprint(len(s), used, left)
}

// draws is a fixed row of numbers.
type draws uint64

func (d *draws) below(n int) int {
	*d ^= *d << 13
	*d ^= *d >> 7
	*d ^= *d << 17
	return int(uint64(*d>>11) % uint64(n))
}

// The chapter's example.
func TestExample(t *testing.T) {
	a := made(t, units(4, 8))
	add(t, a, 0, units(3, 2))
	if e := a.Add(0, units(2, 1)); e != api.ErrQuota {
		t.Error(e)
	}
	if u, e := a.Left(0); u != units(1, 6) || e != api.OK {
		t.Error(u, e)
	}
}

// P6.1: quotas that may not be, and how many there may not be.
func TestNewWrong(t *testing.T) {
	lists := [][]api.Units{nil, {}, alike(9, api.Units{}), alike(9, units(1, 1)), alike(10, units(most, most)), alike(1000, api.Units{})}
	for _, wrong := range wrongUnits() {
		for n := 1; n <= 8; n++ {
			for at := range n {
				l := alike(n, units(4, 8))
				l[at] = wrong
				lists = append(lists, l)
			}
		}
		lists = append(lists, alike(8, wrong), alike(9, wrong))
	}
	for i, l := range lists {
		if a, e := quota.New(l); a != nil || e != api.ErrRange {
			t.Errorf("%d: New(%v) = %v, %d", i, l, a, e)
		}
	}
}

// P6.1, P6.2: at first nothing is used, and all of each quota is left; one queue to eight.
func TestNewIsUnused(t *testing.T) {
	for n := 1; n <= 8; n++ {
		for _, u := range []api.Units{{}, units(1, 0), units(0, 1), units(most, 0), units(0, most), units(most, most), units(3, 5)} {
			quotas := alike(n, u)
			quotas[n-1].Gpus /= 2
			quotas[0].Cpus /= 2
			a := made(t, quotas...)
			if a.Queues() != n || !slices.Equal(a.Used(), alike(n, api.Units{})) {
				t.Errorf("%v: %s", quotas, told(a))
			}
			for q := range n {
				if left, e := a.Left(q); left != quotas[q] || e != api.OK {
					t.Errorf("%v: Left(%d) = %v, %d", quotas, q, left, e)
				}
			}
		}
	}
}

// P6.1: units are added behind others, or refused, whole; quotas just reached, and passed by one, of either kind.
func TestAdd(t *testing.T) {
	for i, x := range []struct {
		quota, used, u api.Units
		e              api.Errno
	}{
		{units(4, 8), units(0, 0), units(0, 0), api.OK},
		{units(4, 8), units(0, 0), units(4, 8), api.OK},
		{units(4, 8), units(0, 0), units(4, 0), api.OK},
		{units(4, 8), units(0, 0), units(0, 8), api.OK},
		{units(4, 8), units(0, 0), units(5, 8), api.ErrQuota},
		{units(4, 8), units(0, 0), units(4, 9), api.ErrQuota},
		{units(4, 8), units(0, 0), units(5, 9), api.ErrQuota},
		{units(4, 8), units(0, 0), units(5, 0), api.ErrQuota},
		{units(4, 8), units(0, 0), units(0, 9), api.ErrQuota},
		{units(4, 8), units(3, 2), units(1, 6), api.OK},
		{units(4, 8), units(3, 2), units(1, 5), api.OK},
		{units(4, 8), units(3, 2), units(0, 6), api.OK},
		{units(4, 8), units(3, 2), units(2, 6), api.ErrQuota},
		{units(4, 8), units(3, 2), units(1, 7), api.ErrQuota},
		{units(4, 8), units(3, 2), units(2, 0), api.ErrQuota},
		{units(4, 8), units(3, 2), units(0, 7), api.ErrQuota},
		{units(4, 8), units(3, 2), units(most, 0), api.ErrQuota},
		{units(4, 8), units(3, 2), units(0, most), api.ErrQuota},
		{units(4, 8), units(4, 8), units(0, 0), api.OK},
		{units(4, 8), units(4, 8), units(1, 0), api.ErrQuota},
		{units(4, 8), units(4, 8), units(0, 1), api.ErrQuota},
		{units(4, 8), units(4, 0), units(0, 8), api.OK},
		{units(4, 8), units(0, 8), units(4, 0), api.OK},
		{units(8, 4), units(0, 0), units(4, 8), api.ErrQuota},

		{units(0, 0), units(0, 0), units(0, 0), api.OK},
		{units(0, 0), units(0, 0), units(1, 0), api.ErrQuota},
		{units(0, 0), units(0, 0), units(0, 1), api.ErrQuota},
		{units(0, 5), units(0, 0), units(0, 5), api.OK},
		{units(0, 5), units(0, 0), units(1, 5), api.ErrQuota},
		{units(5, 0), units(0, 0), units(5, 0), api.OK},
		{units(5, 0), units(0, 0), units(5, 1), api.ErrQuota},

		{units(most, most), units(0, 0), units(most, most), api.OK},
		{units(most, most), units(1, 0), units(most-1, most), api.OK},
		{units(most, most), units(1, 0), units(most, 0), api.ErrQuota},
		{units(most, most), units(0, 1), units(0, most), api.ErrQuota},
		{units(most, most), units(most, most), units(0, 0), api.OK},
		{units(most, most), units(most, most), units(most, 0), api.ErrQuota},
		{units(most, most), units(most, most), units(0, most), api.ErrQuota},
		{units(most-1, most), units(0, 0), units(most, most), api.ErrQuota},
		{units(most, most-1), units(0, 0), units(most, most), api.ErrQuota},
	} {
		a := made(t, x.quota)
		add(t, a, 0, x.used)
		want := x.used
		if x.e == api.OK {
			want = units(x.used.Gpus+x.u.Gpus, x.used.Cpus+x.u.Cpus)
		}
		if e := a.Add(0, x.u); e != x.e || !slices.Equal(a.Used(), []api.Units{want}) {
			t.Errorf("%d: %v of %v: Add(%v) = %d, %s", i, x.used, x.quota, x.u, e, told(a))
		}
		if left, e := a.Left(0); left != units(x.quota.Gpus-want.Gpus, x.quota.Cpus-want.Cpus) || e != api.OK {
			t.Errorf("%d: Left = %v, %d", i, left, e)
		}
	}
}

// P6.1: what is used is taken off, all of it and one more, of either kind.
func TestSub(t *testing.T) {
	for i, x := range []struct {
		used, u api.Units
		e       api.Errno
	}{
		{units(0, 0), units(0, 0), api.OK},
		{units(0, 0), units(1, 0), api.ErrLost},
		{units(0, 0), units(0, 1), api.ErrLost},
		{units(0, 0), units(most, most), api.ErrLost},
		{units(3, 2), units(0, 0), api.OK},
		{units(3, 2), units(3, 2), api.OK},
		{units(3, 2), units(3, 0), api.OK},
		{units(3, 2), units(0, 2), api.OK},
		{units(3, 2), units(2, 1), api.OK},
		{units(3, 2), units(4, 2), api.ErrLost},
		{units(3, 2), units(3, 3), api.ErrLost},
		{units(3, 2), units(4, 3), api.ErrLost},
		{units(3, 2), units(4, 0), api.ErrLost},
		{units(3, 2), units(0, 3), api.ErrLost},
		{units(3, 2), units(2, 3), api.ErrLost},
		{units(3, 2), units(most, 0), api.ErrLost},
		{units(3, 2), units(0, most), api.ErrLost},
		{units(3, 0), units(0, 3), api.ErrLost},
		{units(0, 3), units(3, 0), api.ErrLost},
		{units(most, most), units(most, most), api.OK},
		{units(most, most), units(most, 0), api.OK},
		{units(most-1, most), units(most, most), api.ErrLost},
		{units(most, most-1), units(most, most), api.ErrLost},
	} {
		a := made(t, units(most, most))
		add(t, a, 0, x.used)
		want := x.used
		if x.e == api.OK {
			want = units(x.used.Gpus-x.u.Gpus, x.used.Cpus-x.u.Cpus)
		}
		if e := a.Sub(0, x.u); e != x.e || !slices.Equal(a.Used(), []api.Units{want}) {
			t.Errorf("%d: %v used: Sub(%v) = %d, %s", i, x.used, x.u, e, told(a))
		}
		if left, e := a.Left(0); left != units(most-want.Gpus, most-want.Cpus) || e != api.OK {
			t.Errorf("%d: Left = %v, %d", i, left, e)
		}
	}
}

// P6.1: queues that aren't there and units that may not be, the promise's first error ahead; nothing changes.
func TestWrongCalls(t *testing.T) {
	for n := 1; n <= 8; n++ {
		a := made(t, alike(n, units(5, 7))...)
		for q := range n {
			add(t, a, q, units(q%6, 7-q%6))
		}
		was := told(a)
		refused := func(queue int, u api.Units, toAdd, toSub api.Errno) {
			t.Helper()
			if e := a.Add(queue, u); e != toAdd {
				t.Errorf("Add(%d, %v) = %d, want %d", queue, u, e, toAdd)
			}
			if e := a.Sub(queue, u); e != toSub {
				t.Errorf("Sub(%d, %v) = %d, want %d", queue, u, e, toSub)
			}
			if told(a) != was {
				t.Fatalf("%d, %v: %s, was %s", queue, u, told(a), was)
			}
		}
		for _, q := range wrongQueues(n) {
			for _, u := range append(wrongUnits(), units(0, 0), units(1, 1), units(most, most)) {
				refused(q, u, api.ErrNone, api.ErrNone)
			}
			if u, e := a.Left(q); u != (api.Units{}) || e != api.ErrNone {
				t.Errorf("Left(%d) = %v, %d", q, u, e)
			}
		}
		for q := range n {
			for _, u := range wrongUnits() {
				refused(q, u, api.ErrRange, api.ErrRange)
			}
			for _, u := range []api.Units{units(6, 8), units(6, 0), units(0, 8), units(most, most)} {
				refused(q, u, api.ErrQuota, api.ErrLost)
			}
		}
	}
}

// P6.2: each queue is kept apart from the others.
func TestApart(t *testing.T) {
	var quotas, want []api.Units
	for q := range 8 {
		quotas = append(quotas, units(10+q, 100-q))
		want = append(want, api.Units{})
	}
	a := made(t, quotas...)
	check := func(q int) {
		t.Helper()
		if !slices.Equal(a.Used(), want) {
			t.Errorf("%d: %v, want %v", q, a.Used(), want)
		}
		for k := range 8 {
			if left, e := a.Left(k); left != units(quotas[k].Gpus-want[k].Gpus, quotas[k].Cpus-want[k].Cpus) || e != api.OK {
				t.Errorf("%d: Left(%d) = %v, %d", q, k, left, e)
			}
		}
	}
	for q := range 8 {
		add(t, a, q, units(q, 8-q))
		want[q] = units(q, 8-q)
		check(q)
	}
	// One queue's full quota is no other one's.
	for _, q := range []int{3, 0, 7} {
		left, _ := a.Left(q)
		add(t, a, q, left)
		want[q] = quotas[q]
		check(q)
		if e := a.Add(q, units(1, 0)); e != api.ErrQuota {
			t.Error(q, e)
		}
		if e := a.Sub((q+1)%8, quotas[q]); e != api.ErrLost {
			t.Error(q, e)
		}
	}
	for _, q := range []int{7, 2, 0, 3} {
		sub(t, a, q, want[q])
		want[q] = api.Units{}
		check(q)
	}
}

// P6.2: Left of what is full is nothing, of what is unused all; full again, it is as full.
func TestFullAndBack(t *testing.T) {
	for _, u := range []api.Units{{}, units(0, 3), units(3, 0), units(1, 1), units(most, most)} {
		a := made(t, units(7, 7), u)
		for range 3 {
			add(t, a, 1, u)
			if left, e := a.Left(1); left != (api.Units{}) || e != api.OK || !slices.Equal(a.Used(), []api.Units{{}, u}) {
				t.Error(u, left, e, a.Used())
			}
			sub(t, a, 1, u)
			if left, e := a.Left(1); left != u || e != api.OK || !slices.Equal(a.Used(), []api.Units{{}, {}}) {
				t.Error(u, left, e, a.Used())
			}
		}
	}
}

// P6.1: Add, and then Sub of the same units, leaves all as it was; so do Sub and then Add.
func TestThereAndBack(t *testing.T) {
	for used := range 36 {
		for n := range 36 {
			a := made(t, units(5, 5), units(2, 2))
			add(t, a, 0, units(used/6, used%6))
			add(t, a, 1, units(1, 1))
			was, u := told(a), units(n/6, n%6)
			if a.Add(0, u) == api.OK {
				sub(t, a, 0, u)
			}
			if told(a) != was {
				t.Errorf("%d: %v: %s, was %s", used, u, told(a), was)
			}
			if a.Sub(0, u) == api.OK {
				add(t, a, 0, u)
			}
			if told(a) != was {
				t.Errorf("%d: %v: %s, was %s", used, u, told(a), was)
			}
		}
	}
}

// P6.1, P6.2: every quota, use and call of small numbers is as it is counted unit by unit.
func TestSmall(t *testing.T) {
	for k := range 4 * 4 {
		quotas := []api.Units{units(k/4, k%4)}
		for used := range (quotas[0].Gpus + 1) * (quotas[0].Cpus + 1) {
			for n := range 6 * 6 * 2 {
				a, s := made(t, quotas...), slowMade(quotas)
				first, u := units(used/(quotas[0].Cpus+1), used%(quotas[0].Cpus+1)), units(n/2/6-1, n/2%6-1)
				add(t, a, 0, first)
				s.call(false, 0, first)
				call := a.Add
				if n%2 == 1 {
					call = a.Sub
				}
				if e, want := call(0, u), s.call(n%2 == 1, 0, u); e != want || told(a) != s.told() {
					t.Fatalf("%v of %v, %d: %v: %d, want %d: %s, want %s", first, quotas, n%2, u, e, want, told(a), s.told())
				}
			}
		}
	}
}

// P6.1, P6.2: long rows of calls are as they are counted unit by unit.
func TestRows(t *testing.T) {
	d := draws(6)
	for range 60 {
		var quotas []api.Units
		for range 1 + d.below(8) {
			quotas = append(quotas, units(d.below(12), d.below(12)))
		}
		a, s := made(t, quotas...), slowMade(quotas)
		for step := range 300 {
			isSub, queue, u := d.below(2) == 1, d.below(len(quotas)+2)-1, units(d.below(9)-1, d.below(9)-1)
			if d.below(40) == 0 {
				u.Cpus = most + d.below(2)
			}
			call := a.Add
			if isSub {
				call = a.Sub
			}
			if e, want := call(queue, u), s.call(isSub, queue, u); e != want || told(a) != s.told() {
				t.Fatalf("%d: %v, %d, %v: %d, want %d: %s, want %s", step, isSub, queue, u, e, want, told(a), s.told())
			}
		}
	}
}

// Rule 3: what New is handed is neither changed nor kept, its spare room neither.
func TestHandedIn(t *testing.T) {
	room := []api.Units{units(4, 8), units(1, 2), units(77, 78), units(79, 80)}
	was := slices.Clone(room)
	a := made(t, room[:2]...)
	if e := a.Add(1, units(1, 1)); e != api.OK || !slices.Equal(room, was) {
		t.Error(e, room)
	}
	before := told(a)
	for i := range room {
		room[i] = units(1000, 1000)
	}
	if told(a) != before {
		t.Errorf("%s, was %s", told(a), before)
	}
	if e := a.Add(0, units(5, 0)); e != api.ErrQuota {
		t.Error(e)
	}
}

// Rule 3: what Used tells can be written to, and added to, without a change to the accounts; later calls don't change it.
func TestHandedOut(t *testing.T) {
	a := made(t, units(4, 8), units(1, 2))
	add(t, a, 0, units(3, 2))
	was := told(a)
	l, m := a.Used(), a.Used()
	for i := range l {
		l[i] = units(-1, 99)
	}
	l = append(l, units(5, 5))
	if told(a) != was || !slices.Equal(m, []api.Units{units(3, 2), {}}) {
		t.Error(told(a), l, m)
	}
	add(t, a, 1, units(1, 1))
	if !slices.Equal(m, []api.Units{units(3, 2), {}}) {
		t.Error(m)
	}
}

// Rule 4: two accounts of the same quotas have nothing in common.
func TestTwoAccounts(t *testing.T) {
	quotas := []api.Units{units(4, 8), units(1, 2)}
	a, b := made(t, quotas...), made(t, quotas...)
	was := told(b)
	add(t, a, 0, units(4, 8))
	if told(b) != was {
		t.Error(told(b))
	}
	add(t, b, 0, units(4, 8))
	add(t, b, 1, units(1, 0))
	if !slices.Equal(a.Used(), []api.Units{units(4, 8), {}}) {
		t.Error(a.Used())
	}
}
