package mask_test

import (
	"math"
	"slices"
	"testing"

	"ensemble/api"
	"ensemble/mask"
)

const all = uint64(math.MaxUint64)

// samples: masks of every density, single units, runs at both ends, and a fixed walk through the rest.
func samples() []uint64 {
	l := []uint64{0, all, 0x5555555555555555, 0xaaaaaaaaaaaaaaaa, 1<<63 | 1, 0b10110}
	for k := range 64 {
		l = append(l, 1<<k, all<<k, all>>k, all^1<<k)
	}
	for i := range uint64(1 << 8) {
		l = append(l, i, i<<56, i<<28)
	}
	x := uint64(0x9e3779b97f4a7c15)
	for range 500 {
		x ^= x << 13
		x ^= x >> 7
		x ^= x << 17
		l = append(l, x)
	}
	return l
}

// slowUnits asks each unit for itself.
func slowUnits(m uint64) []int {
	var l []int
	for k := range 64 {
		if m>>k&1 == 1 {
			l = append(l, k)
		}
	}
	return l
}

// slowMask adds up the units' worths; they must be 0 to 63, none twice.
func slowMask(units []int) uint64 {
	var m uint64
	for _, k := range units {
		m += 1 << k
	}
	return m
}

// P1.1: First, of ordinary numbers and of those the chapter names as edges.
func TestFirst(t *testing.T) {
	for n, want := range map[int]uint64{
		0: 0, 1: 1, 2: 3, 5: 31, 32: 1<<32 - 1, 62: 1<<62 - 1, 63: 1<<63 - 1, 64: all,
		-1: 0, -2: 0, -64: 0, -65: 0, math.MinInt: 0, math.MinInt32: 0,
		65: all, 66: all, 128: all, 1 << 32: all, math.MaxInt: all,
	} {
		if m := mask.First(n); m != want {
			t.Errorf("First(%d) = %x, want %x", n, m, want)
		}
	}
}

// P1.1: First has just the units 0 to n - 1.
func TestFirstUnits(t *testing.T) {
	for n := range 65 {
		m := mask.First(n)
		for k := range 64 {
			if (m>>k&1 == 1) != (k < n) {
				t.Errorf("First(%d), unit %d: %x", n, k, m)
			}
		}
	}
}

// P1.1: Count.
func TestCount(t *testing.T) {
	for m, want := range map[uint64]int{0: 0, 1: 1, 0b10110: 3, 1 << 63: 1, 1<<63 | 5: 3, 1<<63 - 1: 63, all: 64} {
		if n := mask.Count(m); n != want {
			t.Errorf("Count(%x) = %d, want %d", m, n, want)
		}
	}
	for _, m := range samples() {
		if n := mask.Count(m); n != len(slowUnits(m)) {
			t.Errorf("Count(%x) = %d", m, n)
		}
	}
}

// P1.1: Lowest, its errors, and the zero mask beside them.
func TestLowest(t *testing.T) {
	for i, x := range []struct {
		m    uint64
		n    int
		want uint64
		e    api.Errno
	}{
		{0b10110, 2, 0b00110, api.OK},
		{0b10110, 0, 0, api.OK},
		{0b10110, 1, 0b10, api.OK},
		{0b10110, 3, 0b10110, api.OK},
		{0b10110, 4, 0, api.ErrFull},
		{0b10110, math.MaxInt, 0, api.ErrFull},
		{0b10110, -1, 0, api.ErrRange},
		{0b10110, math.MinInt, 0, api.ErrRange},
		{0, 0, 0, api.OK},
		{0, 1, 0, api.ErrFull},
		{0, -1, 0, api.ErrRange},
		{1 << 63, 1, 1 << 63, api.OK},
		{1 << 63, 2, 0, api.ErrFull},
		{1<<63 | 1<<62, 1, 1 << 62, api.OK},
		{all, 64, all, api.OK},
		{all, 63, 1<<63 - 1, api.OK},
		{all, 65, 0, api.ErrFull},
		{all, -1, 0, api.ErrRange},
	} {
		if m, e := mask.Lowest(x.m, x.n); m != x.want || e != x.e {
			t.Errorf("%d: Lowest(%x, %d) = %x, %d, want %x, %d", i, x.m, x.n, m, e, x.want, x.e)
		}
	}
}

// P1.1: Lowest of every mask and every n that it has, and of the first one that it hasn't.
func TestLowestOfAll(t *testing.T) {
	for _, m := range samples() {
		l := slowUnits(m)
		for n := range len(l) + 1 {
			if low, e := mask.Lowest(m, n); low != slowMask(l[:n]) || e != api.OK {
				t.Errorf("Lowest(%x, %d) = %x, %d", m, n, low, e)
			}
		}
		if low, e := mask.Lowest(m, len(l)+1); low != 0 || e != api.ErrFull {
			t.Errorf("Lowest(%x, %d) = %x, %d", m, len(l)+1, low, e)
		}
	}
}

// P1.2: Units rise, and are all of them.
func TestUnits(t *testing.T) {
	if l := mask.Units(1<<63 | 5); !slices.Equal(l, []int{0, 2, 63}) {
		t.Error(l)
	}
	if l := mask.Units(0); len(l) != 0 {
		t.Error(l)
	}
	for _, m := range samples() {
		if l := mask.Units(m); !slices.Equal(l, slowUnits(m)) {
			t.Errorf("Units(%x) = %v", m, l)
		}
	}
}

// P1.2 and rule 3: answers are new memory; what is done to one doesn't touch the next.
func TestUnitsAreNew(t *testing.T) {
	a, b := mask.Units(0b10110), mask.Units(0b10110)
	a[0] = 60
	_ = append(a[:1], 61, 62)
	if c := mask.Units(0b10110); !slices.Equal(b, []int{1, 2, 4}) || !slices.Equal(c, b) {
		t.Error(b, c)
	}
}

// P1.2: Of, its errors of the first wrong unit from the left, and the zero mask beside them.
func TestOf(t *testing.T) {
	for i, x := range []struct {
		units []int
		want  uint64
		e     api.Errno
	}{
		{nil, 0, api.OK},
		{[]int{}, 0, api.OK},
		{[]int{0}, 1, api.OK},
		{[]int{63}, 1 << 63, api.OK},
		{[]int{4, 1, 2}, 0b10110, api.OK},
		{[]int{63, 0, 31, 32}, 1<<63 | 1 | 1<<31 | 1<<32, api.OK},
		{[]int{-1}, 0, api.ErrRange},
		{[]int{64}, 0, api.ErrRange},
		{[]int{65}, 0, api.ErrRange},
		{[]int{math.MinInt}, 0, api.ErrRange},
		{[]int{math.MaxInt}, 0, api.ErrRange},
		{[]int{1 << 32}, 0, api.ErrRange},
		{[]int{3, 5, 64}, 0, api.ErrRange},
		{[]int{1, 1}, 0, api.ErrTwice},
		{[]int{0, 0}, 0, api.ErrTwice},
		{[]int{63, 0, 63}, 0, api.ErrTwice},
		{[]int{1, 2, 3, 1, 4}, 0, api.ErrTwice},
		{[]int{1, 1, 64}, 0, api.ErrTwice},
		{[]int{1, 64, 1}, 0, api.ErrRange},
		{[]int{1, 1, -1}, 0, api.ErrTwice},
		{[]int{-1, 1, 1}, 0, api.ErrRange},
		{[]int{64, 64}, 0, api.ErrRange},
		{[]int{-1, -1}, 0, api.ErrRange},
	} {
		if m, e := mask.Of(x.units...); m != x.want || e != x.e {
			t.Errorf("%d: Of(%v) = %x, %d, want %x, %d", i, x.units, m, e, x.want, x.e)
		}
	}
}

// P1.2: each pair of units, wrong ones among them.
func TestOfPairs(t *testing.T) {
	right := func(k int) bool { return k >= 0 && k <= 63 }
	for a := -3; a < 68; a++ {
		for b := -3; b < 68; b++ {
			want, werr := uint64(0), api.OK
			if !right(a) || !right(b) {
				werr = api.ErrRange
			} else if a == b {
				werr = api.ErrTwice
			} else {
				want = slowMask([]int{a, b})
			}
			if m, e := mask.Of(a, b); m != want || e != werr {
				t.Errorf("Of(%d, %d) = %x, %d, want %x, %d", a, b, m, e, want, werr)
			}
		}
	}
}

// P1.2 and rule 3: what is handed in isn't changed, its spare room neither.
func TestOfLeavesUnits(t *testing.T) {
	whole := []int{4, 1, 2, 9, 9}
	mask.Of(whole[:3]...)
	mask.Of(whole...)
	if !slices.Equal(whole, []int{4, 1, 2, 9, 9}) {
		t.Error(whole)
	}
}

// P1.3: Of of Units is the mask, in whichever order the units stand.
func TestOfUnits(t *testing.T) {
	for _, m := range samples() {
		l := mask.Units(m)
		if n, e := mask.Of(l...); n != m || e != api.OK {
			t.Errorf("Of(Units(%x)) = %x, %d", m, n, e)
		}
		slices.Reverse(l)
		if n, e := mask.Of(l...); n != m || e != api.OK {
			t.Errorf("Of(Units(%x) reversed) = %x, %d", m, n, e)
		}
	}
}

// P1.3: Lowest's units are in the mask, n of them, and below all others of it.
func TestLowestAreBelow(t *testing.T) {
	for _, m := range samples() {
		for n := range mask.Count(m) + 1 {
			low, e := mask.Lowest(m, n)
			if e != api.OK || low&^m != 0 || mask.Count(low) != n {
				t.Errorf("Lowest(%x, %d) = %x, %d", m, n, low, e)
			}
			taken, others := mask.Units(low), mask.Units(m&^low)
			if len(taken) > 0 && len(others) > 0 && taken[len(taken)-1] >= others[0] {
				t.Errorf("Lowest(%x, %d) = %x isn't below %v", m, n, low, others)
			}
		}
	}
}
