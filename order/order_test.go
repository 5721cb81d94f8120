package order_test

import (
	"math"
	"slices"
	"testing"

	"ensemble/api"
	"ensemble/order"
)

// rank asks w's rank, and holds it against one.
func rank(t *testing.T, w api.Wait, now, age, want int) {
	t.Helper()
	if n, e := order.Rank(w, now, age); n != want || e != api.OK {
		t.Fatalf("Rank(%v, %d, %d) = %d, %d, want %d", w, now, age, n, e, want)
	}
}

func ahead(t *testing.T, a, b api.Wait, now, age int, want bool) {
	t.Helper()
	if is, e := order.Ahead(a, b, now, age); is != want || e != api.OK {
		t.Fatalf("Ahead(%v, %v, %d, %d) = %v, %d, want %v", a, b, now, age, is, e, want)
	}
}

func sure(t *testing.T, a, b api.Wait, now, age int, want bool) {
	t.Helper()
	if is, e := order.Sure(a, b, now, age); is != want || e != api.OK {
		t.Fatalf("Sure(%v, %v, %d, %d) = %v, %d, want %v", a, b, now, age, is, e, want)
	}
}

// sorts asks for l sorted, and holds it against a row.
func sorts(t *testing.T, l []api.Wait, now, age int, want []api.Wait) {
	t.Helper()
	if s, e := order.Sort(l, now, age); !slices.Equal(s, want) || e != api.OK {
		t.Fatalf("Sort(%v, %d, %d) = %v, %d, want %v", l, now, age, s, e, want)
	}
}

// refused holds what is answered to be the error alone, whoever is asked of a and b.
func refused(t *testing.T, a, b api.Wait, now, age int) {
	t.Helper()
	if is, e := order.Ahead(a, b, now, age); is || e != api.ErrRange {
		t.Errorf("Ahead(%v, %v, %d, %d) = %v, %d", a, b, now, age, is, e)
	}
	if is, e := order.Sure(a, b, now, age); is || e != api.ErrRange {
		t.Errorf("Sure(%v, %v, %d, %d) = %v, %d", a, b, now, age, is, e)
	}
	notSorted(t, []api.Wait{a, b}, now, age)
}

func notRanked(t *testing.T, w api.Wait, now, age int) {
	t.Helper()
	if n, e := order.Rank(w, now, age); n != 0 || e != api.ErrRange {
		t.Errorf("Rank(%v, %d, %d) = %d, %d", w, now, age, n, e)
	}
}

func notSorted(t *testing.T, l []api.Wait, now, age int) {
	t.Helper()
	if s, e := order.Sort(l, now, age); len(s) != 0 || e != api.ErrRange {
		t.Errorf("Sort(%v, %d, %d) = %v, %d", l, now, age, s, e)
	}
}

// The chapter's example.
func TestExample(t *testing.T) {
	a, b := wait(2, 0, 1, 7), wait(3, 5, 2, 8)
	rank(t, a, 6, 4, 3)
	rank(t, b, 6, 4, 3)
	ahead(t, a, b, 6, 4, true)
	ahead(t, b, a, 6, 4, false)
	sorts(t, []api.Wait{b, a}, 6, 4, []api.Wait{a, b})
}

// P9.1: ranks at, just below and just above Since and the ages behind it and ahead of it; at the bounds.
func TestRank(t *testing.T) {
	for _, x := range []struct{ prio, since, now, age, want int }{
		{2, 9, 9, 4, 2}, {2, 9, 10, 4, 2}, {2, 9, 12, 4, 2}, {2, 9, 13, 4, 3}, {2, 9, 14, 4, 3}, {2, 9, 16, 4, 3}, {2, 9, 17, 4, 4},
		{2, 9, 8, 4, 1}, {2, 9, 6, 4, 1}, {2, 9, 5, 4, 1}, {2, 9, 4, 4, 0}, {2, 9, 1, 4, 0}, {2, 9, 0, 4, -1},
		{0, 0, 0, 1, 0}, {15, 0, 0, 1, 15}, {0, 0, 0, 1024, 0}, {15, 0, 0, 1024, 15}, {0, last, last, 1, 0}, {15, last, last, 1024, 15},
		{0, 0, last, 1, last}, {15, 0, last, 1, last + 15}, {0, 0, last, 1024, 1 << 20}, {15, 0, last, 1024, 1<<20 + 15}, {0, 0, last - 1, 1024, 1<<20 - 1},
		{0, last, 0, 1, -last}, {15, last, 0, 1, 15 - last}, {0, last, 0, 1024, -1 << 20}, {15, last, 0, 1024, 15 - 1<<20}, {0, last, 1, 1024, -1 << 20}, {0, last - 1, 0, 1024, -1 << 20}, {0, last - 1024, 0, 1024, 1 - 1<<20}, {0, last - 1023, 0, 1024, -1 << 20},
		{0, last, last - 1, 1024, -1}, {0, last, last - 1024, 1024, -1}, {0, last, last - 1025, 1024, -2}, {0, last, last - 1, 1, -1},
		{5, 0, 1023, 1024, 5}, {5, 0, 1024, 1024, 6}, {5, 0, 1025, 1024, 6}, {5, 100, 101, 1, 6}, {5, 100, 99, 1, 4},
		{0, 0, last, 3, 357913941}, {0, last, 0, 3, -357913942}, {0, 1, last, 3, 357913941}, {0, 2, last, 3, 357913940},
	} {
		rank(t, wait(x.prio, x.since, 1, 7), x.now, x.age, x.want)
	}
}

// P9.1: each Prio and age around Since, and whole ages away from it, is as it is plainly counted.
func TestRankSteps(t *testing.T) {
	for _, age := range ages() {
		for _, prio := range []int{0, 1, 7, 14, 15} {
			for _, since := range []int{0, 1, 5000, last / 2, last - 1, last} {
				w := wait(prio, since, 1, 7)
				for _, n := range []int{-1 << 20, -40, -17, -16, -3, -2, -1, 0, 1, 2, 3, 15, 16, 40, 1 << 20} {
					for now := since + n*age - 2; now <= since+n*age+2; now++ {
						if 0 <= now && now <= last {
							rank(t, w, now, age, plainRank(w, now, age))
						}
					}
				}
			}
		}
	}
}

// P9.1: each tick of some, told one by one: a rank is one more just where an age is over.
func TestRankTicks(t *testing.T) {
	for age := 1; age <= 9; age++ {
		const since = 40
		over := 0
		for now := since; now <= 2*since; now++ {
			if now > since && (now-since)%age == 0 {
				over++
			}
			rank(t, wait(3, since, 1, 7), now, age, 3+over)
		}
		lacks := 0
		for now := since - 1; now >= 0; now-- {
			if (since-1-now)%age == 0 {
				lacks++
			}
			rank(t, wait(3, since, 1, 7), now, age, 3-lacks)
		}
	}
}

// P9.1: a rank hangs on Prio and Since alone, whatever else a wait has.
func TestRankOfWild(t *testing.T) {
	for _, n := range farNumbers() {
		for _, id := range farNumbers() {
			rank(t, wild(wait(4, 6, n, id)), 27, 4, 9)
			rank(t, wild(wait(4, 6, n, id)), 3, 4, 3)
		}
	}
}

// P9.1: ranks first, then Numbers, then Ids; of those that are alike none is ahead.
func TestAhead(t *testing.T) {
	for i, x := range []struct {
		a, b     api.Wait
		now, age int
		ab, ba   bool
	}{
		// Ranks, with Numbers and Ids that say otherwise.
		{wait(3, 5, 9, 9), wait(2, 5, 1, 1), 5, 4, true, false},
		{wait(2, 0, 9, 9), wait(2, 1, 1, 1), 4, 4, true, false},
		{wait(2, 9, 9, 9), wait(2, 10, 1, 1), 9, 4, true, false},
		{wait(15, last, 9, 9), wait(0, last, 1, 1), 0, 1, true, false},
		{wait(0, 0, 9, 9), wait(15, last, 1, 1), last, 1, true, false},
		// Like ranks, and Ids that say otherwise.
		{wait(2, 0, 1, 9), wait(2, 0, 2, 1), 5, 4, true, false},
		{wait(2, 0, 1, 9), wait(3, 5, 2, 1), 6, 4, true, false},
		{wait(2, 1, 1, 9), wait(2, 0, 2, 1), 3, 4, true, false},
		{wait(0, 4, 1, 9), wait(1, 8, 2, 1), 3, 4, true, false},
		{wait(2, 0, -1, 9), wait(2, 0, 0, 1), 5, 4, true, false},
		{wait(2, 0, math.MinInt, 9), wait(2, 0, math.MaxInt, 1), 5, 4, true, false},
		{wait(2, 0, math.MinInt, 9), wait(2, 0, 1, 1), 5, 4, true, false},
		{wait(2, 0, -2, 9), wait(2, 0, math.MaxInt, 1), 5, 4, true, false},
		// Like Numbers.
		{wait(2, 0, 5, 7), wait(2, 0, 5, 8), 5, 4, true, false},
		{wait(2, 0, 5, 7), wait(3, 4, 5, 8), 8, 4, true, false},
		{wait(2, 0, 5, math.MinInt), wait(2, 0, 5, math.MaxInt), 5, 4, true, false},
		{wait(2, 0, 5, -2), wait(2, 0, 5, math.MaxInt), 5, 4, true, false},
		{wait(2, 0, 5, math.MinInt), wait(2, 0, 5, 1), 5, 4, true, false},
		// Alike in all three.
		{wait(2, 0, 5, 7), wait(2, 0, 5, 7), 5, 4, false, false},
		{wait(2, 0, 5, 7), wild(wait(2, 0, 5, 7)), 5, 4, false, false},
		{wait(2, 0, 5, 7), wait(3, 4, 5, 7), 8, 4, false, false},
		{wait(2, 3, 5, 7), wait(2, 0, 5, 7), 3, 4, false, false},
	} {
		if ab, e := order.Ahead(x.a, x.b, x.now, x.age); ab != x.ab || e != api.OK {
			t.Error(i, ab, e)
		}
		if ba, e := order.Ahead(x.b, x.a, x.now, x.age); ba != x.ba || e != api.OK {
			t.Error(i, ba, e)
		}
	}
	for i, a := range farNumbers() {
		for k, b := range farNumbers() {
			ahead(t, wait(1, 3, a, b), wait(1, 3, b, a), 9, 4, i < k)
			ahead(t, wait(1, 3, 5, a), wait(1, 3, 5, b), 9, 4, i < k)
		}
	}
}

// P9.1, P9.2: two that are ahead of each other in turn, as ticks go by; none of them is surely ahead.
func TestInTurn(t *testing.T) {
	a, b := wait(2, 0, 1, 7), wait(3, 3, 2, 8)
	for _, now := range []int{0, 1, 2, 3, 4, 5, 100, last - 5} {
		for tick := now; tick <= min(now+20, last); tick++ {
			// Where b's age is over and a's isn't yet, b's rank is higher; else they are alike, and a has the lower Number.
			turn := tick%4 != 3
			ahead(t, a, b, tick, 4, turn)
			ahead(t, b, a, tick, 4, !turn)
		}
		sure(t, a, b, now, 4, false)
		sure(t, b, a, now, 4, false)
	}
	// With a Number that is higher than b's, a is never ahead.
	a.Number = 3
	sure(t, b, a, 0, 4, true)
	// With b a whole age behind a, their ranks are alike at each tick.
	a.Number, b.Since = 1, 4
	sure(t, a, b, 0, 4, true)
	sure(t, b, a, 0, 4, false)
}

// some are waits that stand near each other in all that is looked at.
func some() []api.Wait {
	var l []api.Wait
	for _, prio := range []int{0, 1, 15} {
		for _, since := range []int{0, 1, 4, 5, 60, 64} {
			for _, number := range []int{1, 2} {
				for _, id := range []int{7, 8} {
					l = append(l, wait(prio, since, number, id))
				}
			}
		}
	}
	return l
}

// P9.3: of any two that aren't alike in Number and Id just one is ahead, and none is ahead of itself; of three it is the same one way round as the other.
func TestTotal(t *testing.T) {
	l := append(some(), wait(4, last, 3, 9), wait(15, last, math.MinInt, math.MaxInt), wait(0, 0, math.MaxInt, math.MinInt))
	for _, x := range []struct{ now, age int }{{0, 4}, {5, 4}, {61, 4}, {64, 1}, {64, 1024}, {last, 4}, {last, 1024}} {
		is := make([][]bool, len(l))
		for i, a := range l {
			for _, b := range l {
				ab, e := order.Ahead(a, b, x.now, x.age)
				if ab != plainAhead(a, b, x.now, x.age) || e != api.OK {
					t.Fatalf("Ahead(%v, %v, %d, %d) = %v, %d", a, b, x.now, x.age, ab, e)
				}
				is[i] = append(is[i], ab)
			}
		}
		for i, a := range l {
			for k, b := range l {
				if is[i][k] && is[k][i] || !is[i][k] && !is[k][i] && !alike(a, b, x.now, x.age) {
					t.Fatal(x, a, b, is[i][k], is[k][i])
				}
				for m, c := range l {
					if is[i][k] && is[k][m] && !is[i][m] {
						t.Fatal(x, a, b, c)
					}
				}
			}
			if is[i][i] {
				t.Fatal(x, a)
			}
		}
	}
}

// P9.1: no waits, one, two, many, sorted already, backwards, mixed up.
func TestSort(t *testing.T) {
	for _, age := range ages() {
		for _, now := range []int{0, 1, 30, last} {
			sorts(t, nil, now, age, nil)
			sorts(t, []api.Wait{}, now, age, nil)
			one := []api.Wait{wild(wait(15, last, -3, -9))}
			sorts(t, one, now, age, one)
			d := draws(now + age)
			for _, n := range []int{2, 3, 11, 12, 13, 40, 150} {
				l := d.waits(n, 3*age, min(now, last-3*age))
				want := plainSort(l, now, age)
				sorts(t, l, now, age, want)
				sorts(t, want, now, age, want)
				slices.Reverse(l)
				sorts(t, l, now, age, plainSort(l, now, age))
				slices.Reverse(want)
				sorts(t, want, now, age, plainSort(want, now, age))
			}
		}
	}
}

// P9.1: each order of six in which no two are alike comes to the same one, and a seventh one like one of them stays where it stood to it.
func TestSortEveryOrder(t *testing.T) {
	want := []api.Wait{wait(4, 0, 9, 9), wait(3, 1, 1, 9), wait(2, 0, 2, 9), wait(3, 3, 5, 3), wait(2, 0, 5, 4), wild(wait(0, 9, 0, 0))}
	l := slices.Clone(want)
	var try func(k int)
	try = func(k int) {
		if k < len(l) {
			for i := k; i < len(l); i++ {
				l[k], l[i] = l[i], l[k]
				try(k + 1)
				l[k], l[i] = l[i], l[k]
			}
			return
		}
		sorts(t, l, 6, 4, want)
		seventh := wild(want[3])
		sorts(t, append(slices.Clone(l), seventh), 6, 4, slices.Insert(slices.Clone(want), 4, seventh))
		sorts(t, append([]api.Wait{seventh}, l...), 6, 4, slices.Insert(slices.Clone(want), 3, seventh))
	}
	try(0)
}

// P9.1: many that are alike in all three stay as they stood, by whichever Prios and Sinces their ranks are alike.
func TestSortAlike(t *testing.T) {
	var l, first []api.Wait
	for i := range 500 {
		w := wait(i%16, 40+4*(i%16)-i%4, 6, 7)
		w.Job.Runtime = i
		l = append(l, w)
	}
	for _, now := range []int{40, 48, 0} {
		// At these ticks all of them have one rank.
		sorts(t, l, now, 4, l)
	}
	for i := range 300 {
		w := wait(3, 8, i%3, 7)
		w.Job.Queue = i
		l = append(l, w)
	}
	for number := range 3 {
		for _, w := range l[500:] {
			if w.Number == number {
				first = append(first, w)
			}
		}
	}
	d := draws(5)
	d.mixUp(l[:500])
	sorts(t, l, 40, 4, append(first, l[:500]...))
}

// P9.1: each one is ahead of those behind it, or alike, in long rows at many ticks.
func TestSortRows(t *testing.T) {
	for row := range 60 {
		d := draws(row + 1)
		age, now := ages()[d.below(len(ages()))], d.below(5000)
		l := d.waits(20+d.below(60), 5000, 0)
		s, e := order.Sort(l, now, age)
		if e != api.OK || len(s) != len(l) {
			t.Fatal(row, e, len(s))
		}
		for i, a := range s {
			for _, b := range s[i+1:] {
				ahead(t, b, a, now, age, false)
				ahead(t, a, b, now, age, !alike(a, b, now, age))
			}
		}
		sorts(t, l, now, age, plainSort(l, now, age))
	}
}

// P9.2: surely ahead is who is ahead at now and at each tick behind it, for all small numbers, around Since and far behind it.
func TestSure(t *testing.T) {
	for age := 1; age <= 4; age++ {
		for _, now := range []int{0, 1, 3, 6, 7, 30} {
			for _, prio := range []int{0, 1, 2, 3} {
				for apart := range 81 {
					a, b := wait(1, apart%9, 5, 5), wait(prio, apart/9, 5, 5)
					for _, c := range []api.Wait{b, wait(prio, b.Since, 4, 6), wait(prio, b.Since, 6, 4), wait(prio, b.Since, 5, 6), wait(prio, b.Since, 5, 4)} {
						sure(t, a, c, now, age, plainSure(a, c, now, age))
						sure(t, c, a, now, age, plainSure(c, a, now, age))
					}
				}
			}
		}
	}
}

// P9.2: Sure is held against Ahead at now and at all ticks behind it, for two ages and more.
func TestSureIsAhead(t *testing.T) {
	surely, ever := 0, 0
	for row := range 400 {
		d := draws(row + 1)
		age, now := 1+d.below(12), d.below(100)
		l := d.waits(2, 3*age, d.below(80))
		want, once := true, false
		for tick := now; tick <= now+2*age+5; tick++ {
			is, e := order.Ahead(l[0], l[1], tick, age)
			if e != api.OK {
				t.Fatal(e)
			}
			want, once = want && is, once || is
		}
		sure(t, l[0], l[1], now, age, want)
		if want {
			surely++
		} else if once {
			ever++
		}
	}
	// The row has enough of each kind, so that the test can tell them apart.
	if surely < 50 || ever < 10 {
		t.Error(surely, ever)
	}
}

// P9.2: the last tick isn't the last one: what changes beyond 2^30 counts.
func TestSureBeyond(t *testing.T) {
	for _, age := range []int{2, 3, 4, 64, 1024} {
		for _, n := range []int{1, age / 2, age - 1} {
			// Of all ticks that may be from this one on a is ahead; n ticks beyond them b's rank is higher.
			a, b := wait(0, last-age, 1, 7), wait(1, last-age+n, 2, 8)
			ahead(t, a, b, last, age, true)
			if !plainAhead(a, b, last+n-1, age) || plainAhead(a, b, last+n, age) {
				t.Error("it changes elsewhere", age, n)
			}
			sure(t, a, b, last, age, false)
			sure(t, b, a, last, age, false)
		}
		// b's rank is never higher, and a has the lower Number.
		sure(t, wait(0, last-age, 1, 7), wait(1, last, 2, 8), last, age, true)
	}
	// Neither has come at now.
	a, b := wait(0, last-1, 1, 7), wait(0, last, 2, 8)
	sure(t, a, b, 0, 4, true)
	sure(t, b, a, 0, 4, false)
	sure(t, wait(0, last, 2, 8), wait(0, 0, 1, 7), 0, 1, false)
	sure(t, wait(0, 0, 1, 7), wait(15, last, 0, 0), 0, 1, true)
	sure(t, wait(15, last, 0, 0), wait(0, 0, 1, 7), 0, 1024, false)
	for row := range 200 {
		d := draws(row + 900)
		age := 1 + d.below(20)
		l := d.waits(2, 3*age, last-3*age)
		now := last - d.below(2*age)
		sure(t, l[0], l[1], now, age, plainSure(l[0], l[1], now, age))
	}
}

// P9.2: who is surely ahead is so at whichever tick it is asked; none is surely ahead of itself, nor each of the other.
func TestSureAnyTick(t *testing.T) {
	for _, a := range some() {
		for _, b := range some() {
			ab, e := order.Sure(a, b, 0, 4)
			ba, f := order.Sure(b, a, 0, 4)
			if e != api.OK || f != api.OK || ab && ba {
				t.Fatal(a, b, ab, ba, e, f)
			}
			if ab != plainSure(a, b, 0, 4) {
				t.Fatal(a, b, ab)
			}
			for _, now := range []int{1, 2, 3, 60, last - 1, last} {
				sure(t, a, b, now, 4, ab)
			}
		}
		sure(t, a, a, 0, 4, false)
		sure(t, a, a, last, 1024, false)
	}
}

// P9.3: one that came 16 ages ahead of another one is surely ahead of it, whatever their Prios; one tick less, and it hangs on their Numbers.
func TestSixteenAges(t *testing.T) {
	for _, age := range ages() {
		for _, since := range []int{0, 1, 12345, last - 16*age - 1} {
			for _, now := range []int{0, since, since + 16*age, last} {
				for _, x := range []struct {
					more, number int
					ab           bool
				}{
					{0, 2, true}, {1, 2, true}, {0, 1, true}, {1, 1, true}, {0, 0, true}, {1, 0, true},
					{-1, 2, true}, {-1, 1, true}, {-1, 0, false}, {-age, 2, true}, {-age, 0, false}, {-age - 1, 2, false}, {-age - 1, 0, false},
				} {
					a, b := wait(0, since, 1, 7), wait(15, since+16*age+x.more, x.number, 8)
					sure(t, a, b, now, age, x.ab)
					b.Job.Prio = 0
					sure(t, a, b, now, age, true)
					sure(t, b, a, now, age, false)
					a.Job.Prio = 15
					sure(t, a, b, now, age, true)
					sure(t, b, a, now, age, false)
				}
				// One tick less, and alike in Number: it hangs on their Ids.
				sure(t, wait(0, since, 1, 8), wait(15, since+16*age-1, 1, 7), now, age, false)
				sure(t, wait(0, since, 1, 7), wait(15, since+16*age-1, 1, 7), now, age, false)
			}
		}
		for prio := range 256 {
			a, b := wait(prio%16, 3, 1, 8), wait(prio/16, 3+16*age, 2, 7)
			sure(t, a, b, 0, age, true)
			ahead(t, a, b, 0, age, true)
			ahead(t, a, b, 3, age, true)
			ahead(t, a, b, 3+16*age, age, true)
			ahead(t, a, b, last, age, true)
		}
	}
}

// P9.1, P9.2: waits that may not be; the first of two wrong, the second, both, with an age and a now that may be and that may not.
func TestWrongWaits(t *testing.T) {
	right := wait(3, 5, 1, 7)
	for _, w := range wrongWaits() {
		for _, x := range []struct{ now, age int }{{5, 4}, {0, 1}, {last, 1024}, {-1, 4}, {5, 0}, {last + 1, 1025}} {
			notRanked(t, w, x.now, x.age)
			refused(t, w, right, x.now, x.age)
			refused(t, right, w, x.now, x.age)
			refused(t, w, w, x.now, x.age)
			refused(t, w, wait(-1, -1, 0, 0), x.now, x.age)
		}
	}
}

// P9.1, P9.2: ticks and ages that may not be, also where two waits are told apart without them, and where there are no waits.
func TestWrongTicksAndAges(t *testing.T) {
	a, b := wait(15, 0, 1, 7), wait(0, last, 2, 8)
	wrong := func(now, age int) {
		t.Helper()
		notRanked(t, a, now, age)
		notRanked(t, b, now, age)
		refused(t, a, b, now, age)
		refused(t, b, a, now, age)
		refused(t, a, a, now, age)
		notSorted(t, nil, now, age)
		notSorted(t, []api.Wait{}, now, age)
		notSorted(t, []api.Wait{a}, now, age)
	}
	for _, now := range wrongTicks() {
		for _, age := range append(wrongAges(), ages()...) {
			wrong(now, age)
		}
	}
	for _, age := range wrongAges() {
		for _, now := range []int{0, 1, 5, last - 1, last} {
			wrong(now, age)
		}
	}
}

// P9.1, P9.2: the bounds themselves may be, whatever Numbers, Ids and other numbers a wait has.
func TestBounds(t *testing.T) {
	for _, prio := range []int{0, 15} {
		for _, since := range []int{0, last} {
			for _, now := range []int{0, last} {
				for _, age := range []int{1, 1024} {
					for _, n := range farNumbers() {
						w := wild(wait(prio, since, n, n))
						rank(t, w, now, age, plainRank(w, now, age))
						ahead(t, w, w, now, age, false)
						sure(t, w, w, now, age, false)
						sorts(t, []api.Wait{w, w}, now, age, []api.Wait{w, w})
					}
				}
			}
		}
	}
}

// P9.1: one wrong wait at the front, in the middle and at the end of a row.
func TestSortWrong(t *testing.T) {
	d := draws(3)
	for _, n := range []int{1, 2, 3, 9, 30} {
		l := d.waits(n, 50, 0)
		sorts(t, l, 9, 4, plainSort(l, 9, 4))
		for _, at := range []int{0, n / 2, n - 1} {
			for _, w := range wrongWaits() {
				m := slices.Clone(l)
				m[at] = w
				before := slices.Clone(m)
				notSorted(t, m, 9, 4)
				if !slices.Equal(m, before) {
					t.Fatal("changed", n, at, w)
				}
			}
		}
	}
}

// Rule 3: what Sort is handed is neither changed nor kept, its spare room neither.
func TestHandedIn(t *testing.T) {
	for _, n := range []int{0, 1, 2, 13, 60} {
		d := draws(n + 4)
		whole := d.waits(n+20, 30, 0)
		before := slices.Clone(whole)
		l := whole[:n]
		s, e := order.Sort(l, 20, 4)
		want := plainSort(l, 20, 4)
		if e != api.OK || !slices.Equal(s, want) || !slices.Equal(whole, before) {
			t.Fatal(n, s, e, whole)
		}
		for i := range whole {
			whole[i] = wait(-1, -1, -1, -1)
		}
		if !slices.Equal(s, want) {
			t.Fatal("kept", n, s)
		}
		notSorted(t, whole[:n+1], 20, 4)
		sorts(t, before[:n], 20, 4, want)
	}
}

// Rule 3: what Sort tells can be written to and appended to without a change to what was handed in, sorted already or not; no two answers share any.
func TestHandedOut(t *testing.T) {
	for _, n := range []int{0, 1, 2, 13, 60} {
		d := draws(n + 40)
		mixed := d.waits(n+20, 30, 0)[:n]
		for _, l := range [][]api.Wait{mixed, append(plainSort(mixed, 20, 4), make([]api.Wait, 20)...)[:n]} {
			before, want := slices.Clone(l[:cap(l)]), plainSort(l, 20, 4)
			s, e := order.Sort(l, 20, 4)
			other, f := order.Sort(l, 20, 4)
			if e != api.OK || f != api.OK {
				t.Fatal(e, f)
			}
			for i := range s {
				s[i] = wait(1, 1, 1, 1)
			}
			for i := range s[:cap(s)] {
				s[:cap(s)][i].Number = -5
			}
			for range 30 {
				s = append(s, wait(2, 2, 2, 2))
			}
			if !slices.Equal(l[:cap(l)], before) || !slices.Equal(other, want) {
				t.Fatal(n, l[:cap(l)], other)
			}
			sorts(t, l, 20, 4, want)
		}
	}
}

// Rule 4: the same calls answer the same, whatever was asked between them.
func TestSameAgain(t *testing.T) {
	d := draws(77)
	l := d.waits(40, 100, 0)
	ask := func() []any {
		n, _ := order.Rank(l[0], 50, 4)
		is, _ := order.Ahead(l[0], l[1], 50, 4)
		surely, _ := order.Sure(l[0], l[1], 50, 4)
		s, _ := order.Sort(l, 50, 4)
		return []any{n, is, surely, [40]api.Wait(s)}
	}
	first := ask()
	for _, w := range wrongWaits() {
		refused(t, w, l[0], 3, 9)
	}
	sorts(t, l, 7, 1, plainSort(l, 7, 1))
	if again := ask(); !slices.Equal(first, again) {
		t.Error(first, again)
	}
}
