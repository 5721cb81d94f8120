package shape_test

import (
	"math"
	"math/bits"
	"testing"

	"ensemble/api"
	"ensemble/shape"
)

const every = uint64(math.MaxUint64)

// of is a shape.
func of(gpus, cpus, least, most int) api.Shape {
	return api.Shape{Gpus: gpus, Cpus: cpus, Min: least, Max: most}
}

// need is a shape of one member, of whom so much is needed.
func need(gpus, cpus int) api.Shape { return of(gpus, cpus, 1, 1) }

// free is what is free at a spot like no other.
func free(m uint64, cpus int) api.Free {
	return api.Free{Spot: api.Spot{Node: 3, Domain: 2}, Mask: m, Cpus: cpus}
}

// slot is a piece of the same spot.
func slot(m uint64, cpus int) api.Slot {
	return api.Slot{Spot: api.Spot{Node: 3, Domain: 2}, Mask: m, Cpus: cpus}
}

// wrong is shapes that may not be, in each of their numbers.
func wrong() []api.Shape {
	l := []api.Shape{{}, of(0, 0, 1, 1), of(0, 0, 16, 16), of(17, 1025, 0, 17)}
	for _, n := range []int{-1, -2, math.MinInt, math.MinInt32} {
		l = append(l, of(n, 3, 1, 4), of(n, 0, 1, 4), of(2, n, 1, 4), of(0, n, 1, 4), of(2, 3, n, 4), of(2, 3, 1, n), of(2, 3, n, n), of(n, n, n, n))
	}
	for _, n := range []int{0, 17, 18, 1 << 32, 1<<32 + 1, math.MaxInt} {
		l = append(l, of(2, 3, n, n), of(2, 3, 1, n))
	}
	for _, n := range []int{17, 18, 1 << 32, 1<<32 + 1, math.MaxInt} {
		l = append(l, of(n, 3, 1, 4), of(n, 0, 1, 4), of(2, 3, n, 16))
	}
	for _, n := range []int{1025, 1026, 1 << 32, 1<<32 + 1, math.MaxInt} {
		l = append(l, of(2, n, 1, 4), of(0, n, 1, 4))
	}
	return append(l,
		of(2, 3, 0, 4), of(2, 3, 0, 0), of(2, 3, 2, 1), of(2, 3, 16, 15), of(2, 3, 16, 1), of(2, 3, 16, 17),
		// Together their numbers are those of a shape that may be.
		of(-1, 2, 1, 1), of(2, -1, 1, 1), of(17, -1, 1, 1), of(-1024, 1025, 1, 1),
		of(math.MinInt, math.MinInt, 1, 1), of(math.MinInt, math.MinInt+1, 1, 1), of(math.MaxInt, math.MinInt, 1, 1), of(math.MaxInt, math.MinInt+2, 1, 1),
	)
}

// right is shapes that may be, their bounds among them.
func right() []api.Shape {
	var l []api.Shape
	for _, g := range []int{0, 1, 2, 3, 5, 8, 15, 16} {
		for _, c := range []int{0, 1, 2, 3, 7, 64, 1023, 1024} {
			if g+c > 0 {
				l = append(l, need(g, c), of(g, c, 1, 16), of(g, c, 16, 16), of(g, c, 3, 4))
			}
		}
	}
	return l
}

// frees is what may be free somewhere: few and many units, with holes between them, spots that aren't there, and Cpus below 0.
func frees() []api.Free {
	masks := []uint64{0, 1, 2, 3, 0b110110, 0x5555, 0xaaaa, 1<<16 - 1, 1<<15 - 1, 1 << 15, 1<<63 | 1, 1 << 63, every &^ 1, 0xffff << 48, every}
	x := uint64(0x9e3779b97f4a7c15)
	for range 12 {
		x ^= x << 13
		x ^= x >> 7
		x ^= x << 17
		masks = append(masks, x, x&0xffff)
	}
	var l []api.Free
	for i, m := range masks {
		for _, c := range []int{math.MinInt, -1, 0, 1, 2, 3, 15, 16, 17, 112, 1023, 1024, 1 << 20, math.MaxInt} {
			l = append(l, free(m, c), api.Free{Spot: api.Spot{Node: i - 2, Domain: math.MaxInt}, Mask: m, Cpus: c})
		}
	}
	return l
}

// slowMayBe asks for each number's own values.
func slowMayBe(s api.Shape) bool {
	gpus, cpus, members := false, false, false
	for n := range 17 {
		gpus = gpus || s.Gpus == n
	}
	for n := range 1025 {
		cpus = cpus || s.Cpus == n
	}
	for most := 1; most <= 16; most++ {
		for least := 1; least <= most; least++ {
			members = members || s.Min == least && s.Max == most
		}
	}
	return gpus && cpus && members && !(s.Gpus == 0 && s.Cpus == 0)
}

// slowFits tries each number of members, from the greatest one on; s must be one that may be.
func slowFits(s api.Shape, f api.Free) int {
	for n := 16; n > 0 && f.Cpus >= 0; n-- {
		if n*s.Gpus <= bits.OnesCount64(f.Mask) && n*s.Cpus <= f.Cpus {
			return n
		}
	}
	return 0
}

// slowLowest goes through m unit by unit.
func slowLowest(m uint64, n int) uint64 {
	var low uint64
	for k := range 64 {
		if n > 0 && m>>k&1 == 1 {
			low += 1 << k
			n--
		}
	}
	return low
}

// refused holds Piece's answer to be the error alone.
func refused(t *testing.T, s api.Shape, f api.Free, want api.Errno) {
	t.Helper()
	if p, left, e := shape.Piece(s, f); e != want || p != (api.Slot{}) || left != (api.Free{}) {
		t.Errorf("Piece(%v, %v) = %v, %v, %d, want %d", s, f, p, left, e, want)
	}
}

// The chapter's example.
func TestExample(t *testing.T) {
	s, f := need(2, 3), free(0b11111, 7)
	if n := shape.Fits(s, f); n != 2 {
		t.Error(n)
	}
	p, left, e := shape.Piece(s, f)
	if p != slot(0b11, 3) || left != free(0b11100, 4) || e != api.OK {
		t.Error(p, left, e)
	}
	p, left, e = shape.Piece(s, left)
	if p != slot(0b1100, 3) || left != free(0b10000, 1) || e != api.OK {
		t.Error(p, left, e)
	}
	refused(t, s, left, api.ErrFit)
}

// P4.1: each bound of a shape, and one more or one less than it.
func TestCheck(t *testing.T) {
	for i, x := range []struct {
		s api.Shape
		e api.Errno
	}{
		{of(2, 3, 1, 4), api.OK},
		{of(0, 1, 1, 1), api.OK},
		{of(1, 0, 1, 1), api.OK},
		{of(0, 0, 1, 1), api.ErrRange},
		{of(16, 0, 1, 1), api.OK},
		{of(17, 0, 1, 1), api.ErrRange},
		{of(-1, 0, 1, 1), api.ErrRange},
		{of(-1, 1, 1, 1), api.ErrRange},
		{of(0, 1024, 1, 1), api.OK},
		{of(0, 1025, 1, 1), api.ErrRange},
		{of(0, -1, 1, 1), api.ErrRange},
		{of(1, -1, 1, 1), api.ErrRange},
		{of(16, 1024, 16, 16), api.OK},
		{of(16, 1024, 1, 16), api.OK},
		{of(16, 1025, 1, 16), api.ErrRange},
		{of(17, 1024, 1, 16), api.ErrRange},
		{of(1, 1, 0, 0), api.ErrRange},
		{of(1, 1, 0, 1), api.ErrRange},
		{of(1, 1, 1, 0), api.ErrRange},
		{of(1, 1, -1, 1), api.ErrRange},
		{of(1, 1, 1, 1), api.OK},
		{of(1, 1, 1, 2), api.OK},
		{of(1, 1, 2, 1), api.ErrRange},
		{of(1, 1, 15, 16), api.OK},
		{of(1, 1, 16, 15), api.ErrRange},
		{of(1, 1, 16, 17), api.ErrRange},
		{of(1, 1, 17, 16), api.ErrRange},
		{of(1, 1, 17, 17), api.ErrRange},
		{of(1, 1, 1, 17), api.ErrRange},
	} {
		if e := shape.Check(x.s); e != x.e {
			t.Errorf("%d: Check(%v) = %d, want %d", i, x.s, e, x.e)
		}
	}
	for _, s := range wrong() {
		if e := shape.Check(s); e != api.ErrRange {
			t.Errorf("Check(%v) = %d", s, e)
		}
	}
	for _, s := range right() {
		if e := shape.Check(s); e != api.OK {
			t.Errorf("Check(%v) = %d", s, e)
		}
	}
}

// P4.1: all shapes whose numbers are near their bounds, or far outside of them.
func TestCheckAll(t *testing.T) {
	gpus := []int{math.MinInt, -17, -1, 0, 1, 15, 16, 17, 1 << 32, math.MaxInt}
	cpus := []int{math.MinInt, -1024, -1, 0, 1, 1023, 1024, 1025, 1 << 32, math.MaxInt}
	members := []int{math.MinInt, -1, 0, 1, 2, 15, 16, 17, 1<<32 + 1, math.MaxInt}
	for _, g := range gpus {
		for _, c := range cpus {
			for _, least := range members {
				for _, most := range members {
					s, want := of(g, c, least, most), api.ErrRange
					if slowMayBe(s) {
						want = api.OK
					}
					if e := shape.Check(s); e != want {
						t.Errorf("Check(%v) = %d, want %d", s, e, want)
					}
				}
			}
		}
	}
}

// P4.1: what 0 to 16 members need together; how many of them a gang may have plays no part.
func TestUnits(t *testing.T) {
	for _, s := range right() {
		var want api.Units
		for n := range 17 {
			if u, e := shape.Units(s, n); u != want || e != api.OK {
				t.Errorf("Units(%v, %d) = %v, %d, want %v", s, n, u, e, want)
			}
			want.Gpus += s.Gpus
			want.Cpus += s.Cpus
		}
	}
	if u, e := shape.Units(of(16, 1024, 2, 3), 16); u != (api.Units{Gpus: 256, Cpus: 16384}) || e != api.OK {
		t.Error(u, e)
	}
}

// P4.1: fewer than 0 members, more than 16, and shapes that may not be: the error alone.
func TestUnitsWrong(t *testing.T) {
	refuse := func(s api.Shape, n int) {
		if u, e := shape.Units(s, n); u != (api.Units{}) || e != api.ErrRange {
			t.Errorf("Units(%v, %d) = %v, %d", s, n, u, e)
		}
	}
	outside := []int{-1, -2, 17, 18, 1 << 32, 1<<32 + 1, math.MinInt, math.MaxInt}
	for _, n := range outside {
		for _, s := range right() {
			refuse(s, n)
		}
	}
	for _, s := range wrong() {
		for n := range 17 {
			refuse(s, n)
		}
		for _, n := range outside {
			refuse(s, n)
		}
	}
}

// P4.2: how many members fit; just as much free as so many need, and one unit less.
func TestFits(t *testing.T) {
	for i, x := range []struct {
		s    api.Shape
		f    api.Free
		want int
	}{
		{need(2, 3), free(0b110110, 7), 2},
		{need(2, 3), free(0, 0), 0},
		{need(1, 0), free(0, 0), 0},
		{need(0, 1), free(0, 0), 0},
		{need(2, 3), free(0b11, 3), 1},
		{need(2, 3), free(0b1, 3), 0},
		{need(2, 3), free(0b11, 2), 0},
		{need(2, 3), free(0b1111, 6), 2},
		{need(2, 3), free(0b111, 6), 1},
		{need(2, 3), free(0b1111, 5), 1},
		{need(2, 3), free(0, 1024), 0},
		{need(2, 3), free(0xffff, 0), 0},
		{need(16, 1024), free(0xffff, 1024), 1},
		{need(16, 1024), free(0x7fff, 1024), 0},
		{need(16, 1024), free(0xffff, 1023), 0},
		{need(16, 1024), free(every, 4095), 3},

		// Only Gpus are needed.
		{need(1, 0), free(0xffff, 0), 16},
		{need(1, 0), free(0x7fff, 0), 15},
		{need(3, 0), free(1<<63|0b11, 0), 1},
		{need(3, 0), free(1<<63|0b1, 0), 0},
		{need(16, 0), free(every, 0), 4},
		{need(1, 0), free(1<<63, 1024), 1},

		// Only Cpus are needed.
		{need(0, 1), free(0, 15), 15},
		{need(0, 1), free(0, 16), 16},
		{need(0, 1024), free(0, 1023), 0},
		{need(0, 1024), free(0, 1024), 1},
		{need(0, 7), free(0xffff, 111), 15},

		// Never more than 16.
		{need(0, 1), free(0, 17), 16},
		{need(0, 1), free(0, math.MaxInt), 16},
		{need(0, 1024), free(0, math.MaxInt), 16},
		{need(0, 7), free(0, 112), 16},
		{need(0, 7), free(0, 119), 16},
		{need(1, 0), free(0x1ffff, 0), 16},
		{need(1, 0), free(every, 0), 16},
		{need(3, 0), free(every, 0), 16},
		{need(4, 0), free(every, 0), 16},
		{need(4, 0), free(every>>1, 0), 15},
		{need(1, 1), free(every, 17), 16},

		// Cpus below 0: nothing fits, not even who needs none.
		{need(1, 0), free(0xffff, -1), 0},
		{need(1, 0), free(every, math.MinInt), 0},
		{need(0, 1), free(0, -1), 0},
		{need(0, 1), free(0, math.MinInt), 0},
		{need(2, 3), free(0xffff, -7), 0},
	} {
		if n := shape.Fits(x.s, x.f); n != x.want {
			t.Errorf("%d: Fits(%v, %v) = %d, want %d", i, x.s, x.f, n, x.want)
		}
	}
}

// P4.2: it is the most members; how many a gang may have, and which spot it is, play no part.
func TestFitsAll(t *testing.T) {
	for _, f := range frees() {
		for _, s := range right() {
			if n := shape.Fits(s, f); n != slowFits(s, f) {
				t.Errorf("Fits(%v, %v) = %d, want %d", s, f, n, slowFits(s, f))
			}
		}
	}
}

// P4.2: of shapes that may not be none fits, and no piece is cut, whatever is free; that is told ahead of ErrFit.
func TestWrongShapes(t *testing.T) {
	for _, f := range frees() {
		for _, s := range wrong() {
			if n := shape.Fits(s, f); n != 0 {
				t.Errorf("Fits(%v, %v) = %d", s, f, n)
			}
			refused(t, s, f, api.ErrRange)
		}
	}
}

// P4.2: a member's slot, and what is left.
func TestPiece(t *testing.T) {
	for i, x := range []struct {
		s    api.Shape
		f    api.Free
		slot api.Slot
		left api.Free
	}{
		{need(2, 3), free(0b110110, 7), slot(0b110, 3), free(0b110000, 4)},
		{need(2, 3), free(0b11, 3), slot(0b11, 3), free(0, 0)},
		{need(1, 0), free(0b1000, 0), slot(0b1000, 0), free(0, 0)},
		{need(1, 0), free(0b1000, 5), slot(0b1000, 0), free(0, 5)},
		{need(3, 0), free(1<<63|1<<31|1<<5|1, 1), slot(1<<31|1<<5|1, 0), free(1<<63, 1)},
		{need(2, 1), free(1<<63|1, 1), slot(1<<63|1, 1), free(0, 0)},
		{need(0, 4), free(0b101, 4), slot(0, 4), free(0b101, 0)},
		{need(0, 1), free(0, math.MaxInt), slot(0, 1), free(0, math.MaxInt-1)},
		{of(16, 1024, 16, 16), free(0xffff, 1024), slot(0xffff, 1024), free(0, 0)},
		{of(16, 1024, 1, 16), free(every, 1025), slot(0xffff, 1024), free(every&^0xffff, 1)},
	} {
		if p, left, e := shape.Piece(x.s, x.f); p != x.slot || left != x.left || e != api.OK {
			t.Errorf("%d: Piece(%v, %v) = %v, %v, %d, want %v, %v", i, x.s, x.f, p, left, e, x.slot, x.left)
		}
	}
}

// P4.2: none fits: the error alone.
func TestPieceNoneFits(t *testing.T) {
	for _, s := range []api.Shape{need(2, 3), of(2, 3, 16, 16)} {
		for _, f := range []api.Free{{}, free(0, 0), free(0b1, 3), free(1<<63, 1024), free(0b11, 2), free(every, 2), free(0, 1024), free(every, -1), free(every, math.MinInt)} {
			refused(t, s, f, api.ErrFit)
		}
	}
	refused(t, need(1, 0), free(0, 1024), api.ErrFit)
	refused(t, need(1, 0), free(0xffff, -1), api.ErrFit)
	refused(t, need(0, 1), free(every, 0), api.ErrFit)
	refused(t, need(0, 1), free(every, -1), api.ErrFit)
	refused(t, need(16, 0), free(0x7fff, 0), api.ErrFit)
	refused(t, need(0, 1024), free(0, 1023), api.ErrFit)
}

// P4.2: pieces of all that may be free: f's spot, its lowest Gpus, and f is what both answers have together.
func TestPieceAll(t *testing.T) {
	for _, f := range frees() {
		for _, s := range right() {
			if slowFits(s, f) == 0 {
				refused(t, s, f, api.ErrFit)
				continue
			}
			low := slowLowest(f.Mask, s.Gpus)
			want := api.Slot{Spot: f.Spot, Mask: low, Cpus: s.Cpus}
			rest := api.Free{Spot: f.Spot, Mask: f.Mask - low, Cpus: f.Cpus - s.Cpus}
			if p, left, e := shape.Piece(s, f); p != want || left != rest || e != api.OK {
				t.Errorf("Piece(%v, %v) = %v, %v, %d, want %v, %v", s, f, p, left, e, want, rest)
			}
		}
	}
}

// cut cuts pieces of f till none fits, at most so many; it asks each time whether they share a unit with those ahead.
func cut(t *testing.T, s api.Shape, f api.Free, most int) (int, api.Free) {
	t.Helper()
	left, taken, cpus := f, uint64(0), 0
	for n := range most {
		p, rest, e := shape.Piece(s, left)
		if e == api.ErrFit {
			return n, left
		}
		if e != api.OK || p.Spot != f.Spot || rest.Spot != f.Spot {
			t.Fatalf("Piece(%v, %v) = %v, %v, %d", s, left, p, rest, e)
		}
		if bits.OnesCount64(p.Mask) != s.Gpus || p.Cpus != s.Cpus {
			t.Fatalf("%v isn't a piece for %v", p, s)
		}
		if p.Mask&taken != 0 || p.Mask&^f.Mask != 0 {
			t.Fatalf("%v of %v shares a unit with those ahead, or has one that isn't free", p, f)
		}
		taken |= p.Mask
		cpus += p.Cpus
		left = rest
		if left.Mask != f.Mask&^taken || left.Cpus != f.Cpus-cpus || left.Cpus < 0 {
			t.Fatalf("%v is left of %v without %x and %d", left, f, taken, cpus)
		}
	}
	return most, left
}

// P4.3: pieces can be cut just as often as members fit, and share no unit.
func TestPiecesAsOftenAsFit(t *testing.T) {
	for _, f := range frees() {
		for _, s := range right() {
			fits := shape.Fits(s, f)
			n, left := cut(t, s, f, 16)
			if n != fits {
				t.Errorf("%d pieces of %v for %v, %d members fit", n, f, s, fits)
			}
			if fits < 16 && shape.Fits(s, left) != 0 {
				t.Errorf("%v is left of %v for %v: one more fits", left, f, s)
			}
		}
	}
}

// P4.3: each mask and number of Cpus of a small spot; with each piece one member less fits.
func TestPiecesOfASmallSpot(t *testing.T) {
	for m := range uint64(1 << 6) {
		for c := range 9 {
			for try := range 5 * 6 {
				s := need(try%5, try/5)
				for left, n := free(m, c), slowFits(s, free(m, c)); s != need(0, 0) && n >= 0; n-- {
					if k := shape.Fits(s, left); k != n {
						t.Fatalf("Fits(%v, %v) = %d, want %d", s, left, k, n)
					}
					if n == 0 {
						refused(t, s, left, api.ErrFit)
					} else {
						_, left, _ = shape.Piece(s, left)
					}
				}
			}
		}
	}
}

// P4.3: of more than 16 members need 16 fit at once, and pieces of what is left are cut further.
func TestPiecesOfMoreThan16(t *testing.T) {
	for i, x := range []struct {
		s api.Shape
		f api.Free
		n int
	}{
		{need(1, 0), free(0xffff, 0), 16},
		{need(1, 0), free(0x1ffff, 0), 17},
		{need(1, 0), free(every, 0), 64},
		{need(0, 1), free(0, 16), 16},
		{need(0, 1), free(0, 17), 17},
		{need(0, 2), free(0, 1023), 511},
		{need(3, 1), free(every, 900), 21},
	} {
		if n := shape.Fits(x.s, x.f); n != 16 {
			t.Errorf("%d: Fits(%v, %v) = %d", i, x.s, x.f, n)
		}
		n, left := cut(t, x.s, x.f, 2000)
		if n != x.n || shape.Fits(x.s, left) != 0 {
			t.Errorf("%d: %d pieces of %v for %v, %v left, want %d", i, n, x.f, x.s, left, x.n)
		}
	}
}

// Rule 4: the same call answers the same, whatever was asked between.
func TestAnswersHangOnArgumentsAlone(t *testing.T) {
	s, f := of(2, 3, 1, 4), free(0b110110, 7)
	for _, other := range append(wrong(), right()...) {
		shape.Check(other)
		shape.Units(other, 17)
		shape.Fits(other, f)
		shape.Piece(other, f)
		u, e := shape.Units(s, 3)
		p, left, ep := shape.Piece(s, f)
		if shape.Check(s) != api.OK || u != (api.Units{Gpus: 6, Cpus: 9}) || e != api.OK {
			t.Fatal(other, u, e)
		}
		if shape.Fits(s, f) != 2 || p != slot(0b110, 3) || left != free(0b110000, 4) || ep != api.OK {
			t.Fatal(other, p, left, ep)
		}
	}
}
