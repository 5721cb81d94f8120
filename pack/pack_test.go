package pack_test

import (
	"fmt"
	"math"
	"math/bits"
	"slices"
	"testing"

	"ensemble/api"
	"ensemble/pack"
	"ensemble/shape"
)

const every = uint64(math.MaxUint64)

// free is what is free at a spot.
func free(node, domain int, m uint64, cpus int) api.Free {
	return api.Free{Spot: api.Spot{Node: node, Domain: domain}, Mask: m, Cpus: cpus}
}

// at is a slot.
func at(node, domain int, m uint64, cpus int) api.Slot {
	return api.Slot{Spot: api.Spot{Node: node, Domain: domain}, Mask: m, Cpus: cpus}
}

// need is a shape of whose members each needs so much.
func need(gpus, cpus int) api.Shape { return api.Shape{Gpus: gpus, Cpus: cpus, Min: 1, Max: 1} }

// rack is a view of spots 0 0, 0 1, 1 0, 1 1 and so on, which have such masks and as many Cpus as are told, or 0.
func rack(masks []uint64, cpus ...int) []api.Free {
	var view []api.Free
	for k, m := range masks {
		f := free(k/2, k%2, m, 0)
		if k < len(cpus) {
			f.Cpus = cpus[k]
		}
		view = append(view, f)
	}
	return view
}

// cores is a view of spots that have Cpus alone.
func cores(cpus ...int) []api.Free { return rack(make([]uint64, len(cpus)), cpus...) }

// wrongShapes may not be.
func wrongShapes() []api.Shape {
	return []api.Shape{
		{}, {Min: 1, Max: 1}, {Gpus: 1}, {Gpus: 1, Min: 1}, {Gpus: 1, Max: 1}, {Gpus: 1, Min: 2, Max: 1}, {Gpus: 1, Min: 1, Max: 17}, {Gpus: 1, Min: 17, Max: 17}, {Gpus: 1, Min: -1, Max: 1},
		need(-1, 0), need(-1, 1), need(17, 0), need(0, -1), need(1, -1), need(0, 1025), need(1, 1025), need(math.MinInt, 1), need(1, math.MinInt), need(math.MaxInt, 1), need(1, math.MaxInt), need(math.MinInt, math.MinInt),
	}
}

// wrongMembers are fewer than 1 and more than 16.
func wrongMembers() []int {
	return []int{0, -1, -2, -16, math.MinInt, math.MinInt32, 17, 18, 1 << 32, 1<<32 + 1, math.MaxInt}
}

// draws are numbers that look as if drawn, and are the same in each run.
type draws uint64

func (d *draws) below(n int) int {
	x := uint64(*d)
	x ^= x << 13
	x ^= x >> 7
	x ^= x << 17
	*d = draws(x)
	return int(x >> 1 % uint64(n))
}

// view is a drawn view of up to that many spots, not in their order, of up to that many Cpus each.
func (d *draws) view(spots, cpus int) []api.Free {
	var view []api.Free
	for k := range d.below(spots + 1) {
		m := uint64(d.below(1<<16)) & uint64(d.below(1<<16))
		view = append(view, free(7-k, k*5%3, m, d.below(cpus+1)))
	}
	return view
}

// shape is a drawn shape that may be.
func (d *draws) shape() api.Shape {
	gpus := d.below(5)
	return need(gpus, d.below(6)+max(0, 1-gpus))
}

// slowPiece goes through f unit by unit for a member's Gpus.
func slowPiece(s api.Shape, f api.Free) (api.Slot, api.Free, bool) {
	slot, left := api.Slot{Spot: f.Spot, Cpus: s.Cpus}, f
	for k := range 64 {
		if bits.OnesCount64(slot.Mask) < s.Gpus && f.Mask>>k&1 == 1 {
			slot.Mask += 1 << k
			left.Mask -= 1 << k
		}
	}
	left.Cpus -= s.Cpus
	return slot, left, bits.OnesCount64(slot.Mask) == s.Gpus && left.Cpus >= 0
}

// slowFits cuts pieces till none is left, or there are 16.
func slowFits(s api.Shape, f api.Free) int {
	for n := range 16 {
		_, left, ok := slowPiece(s, f)
		if !ok {
			return n
		}
		f = left
	}
	return 16
}

// slowPlace goes through the view again for each number of members that may fit, the greatest one first; nil, if there is less room.
func slowPlace(view []api.Free, s api.Shape, members int) []api.Slot {
	var slots []api.Slot
	for n := 16; n > 0; n-- {
		for _, f := range view {
			if slowFits(s, f) != n {
				continue
			}
			for range n {
				slot, left, _ := slowPiece(s, f)
				slots, f = append(slots, slot), left
			}
		}
	}
	if len(slots) < members {
		return nil
	}
	return slots[:members]
}

// slowTurn is Less and More, each unit for itself; sign is -1 or 1.
func slowTurn(view []api.Free, slots []api.Slot, sign int) ([]api.Free, api.Errno) {
	after := append([]api.Free{}, view...)
	for _, s := range slots {
		if s.Cpus < 0 {
			return nil, api.ErrRange
		}
		k := 0
		for k < len(after) && after[k].Spot != s.Spot {
			k++
		}
		if k == len(after) {
			return nil, api.ErrNone
		}
		for u := range 64 {
			if s.Mask>>u&1 == 0 {
				continue
			}
			isFree := after[k].Mask>>u&1 == 1
			if isFree && sign > 0 {
				return nil, api.ErrTwice
			}
			if !isFree && sign < 0 {
				return nil, api.ErrBusy
			}
			after[k].Mask ^= 1 << u
		}
		if sign < 0 && s.Cpus > after[k].Cpus {
			return nil, api.ErrBusy
		}
		if sign > 0 && uint64(s.Cpus)+uint64(after[k].Cpus) > 1<<20 {
			return nil, api.ErrOver
		}
		after[k].Cpus += sign * s.Cpus
	}
	return after, api.OK
}

// placed holds Place's answer to be these slots.
func placed(t *testing.T, view []api.Free, s api.Shape, members int, want []api.Slot) {
	t.Helper()
	if l, e := pack.Place(view, s, members); !slices.Equal(l, want) || e != api.OK {
		t.Errorf("Place(%v, %v, %d) = %v, %d, want %v", view, s, members, l, e, want)
	}
}

// refused holds Place's answer to be the error alone.
func refused(t *testing.T, view []api.Free, s api.Shape, members int, want api.Errno) {
	t.Helper()
	if l, e := pack.Place(view, s, members); len(l) != 0 || e != want {
		t.Errorf("Place(%v, %v, %d) = %v, %d, want %d", view, s, members, l, e, want)
	}
}

// turned holds what Less or More answered to be this view, or this error alone.
func turned(t *testing.T, what string, got []api.Free, e api.Errno, want []api.Free, we api.Errno) {
	t.Helper()
	if !slices.Equal(got, want) || e != we {
		t.Errorf("%s = %v, %d, want %v, %d", what, got, e, want, we)
	}
}

func less(t *testing.T, view []api.Free, slots []api.Slot, want []api.Free, we api.Errno) {
	t.Helper()
	got, e := pack.Less(view, slots)
	turned(t, fmt.Sprintf("Less(%v, %v)", view, slots), got, e, want, we)
}

func more(t *testing.T, view []api.Free, slots []api.Slot, want []api.Free, we api.Errno) {
	t.Helper()
	got, e := pack.More(view, slots)
	turned(t, fmt.Sprintf("More(%v, %v)", view, slots), got, e, want, we)
}

// The chapter's example, read as the masks 1 and 3: two of the second spot, then one of the first. (Into a mask of three units all three would go.)
func TestExample(t *testing.T) {
	placed(t, rack([]uint64{1, 3}), need(1, 0), 3, []api.Slot{at(0, 1, 1, 0), at(0, 1, 2, 0), at(0, 0, 1, 0)})
	placed(t, rack([]uint64{1, 7}), need(1, 0), 3, []api.Slot{at(0, 1, 1, 0), at(0, 1, 2, 0), at(0, 1, 4, 0)})
}

// P5.1: room is that of all spots, each for itself.
func TestRoom(t *testing.T) {
	for i, x := range []struct {
		view []api.Free
		s    api.Shape
		want int
	}{
		{nil, need(1, 0), 0},
		{[]api.Free{}, need(0, 1), 0},
		{rack([]uint64{0}), need(1, 0), 0},
		{rack([]uint64{1}), need(1, 0), 1},
		{rack([]uint64{0b1011}), need(2, 0), 1},
		{rack([]uint64{0b1011, 0b11, 0b1}), need(2, 0), 2},
		{rack([]uint64{0b1, 0b1, 0b1, 0b1}), need(2, 0), 0},
		{rack([]uint64{0b1111, 0b111}, 9, 1), need(1, 3), 3},
		{rack([]uint64{0b1111, 0b111}, 9, 3), need(1, 3), 4},
		{rack([]uint64{0xffff, 0xffff}), need(1, 1), 0},
		{cores(6, 5, 2, 0), need(0, 3), 3},
		{cores(1024, 1023), need(0, 1024), 1},
		{rack([]uint64{0xffff, 0xffff}, 1024, 1024), need(16, 1024), 2},

		// Of each spot 16 are counted at most, and as many of the next one.
		{cores(1 << 20), need(0, 1), 16},
		{cores(17, 1<<20, 16, 15), need(0, 1), 63},
		{rack([]uint64{every, 0x1ffff}), need(1, 0), 32},

		// How many members a gang may have plays no part.
		{cores(9, 9), api.Shape{Cpus: 1, Min: 3, Max: 5}, 18},
		{cores(1, 1), api.Shape{Cpus: 1, Min: 16, Max: 16}, 2},
	} {
		if n := pack.Room(x.view, x.s); n != x.want {
			t.Errorf("%d: Room(%v, %v) = %d, want %d", i, x.view, x.s, n, x.want)
		}
	}
	for _, s := range wrongShapes() {
		for _, view := range [][]api.Free{nil, cores(9), rack([]uint64{every, 0xffff}, 1<<20, 1<<20)} {
			if n := pack.Room(view, s); n != 0 {
				t.Errorf("Room(%v, %v) = %d", view, s, n)
			}
		}
	}
}

// P5.1: as many spots as a cluster has at most, and more.
func TestRoomOfMany(t *testing.T) {
	for _, spots := range []int{16, 64, 65, 5000} {
		var view []api.Free
		for k := range spots {
			view = append(view, free(k, 0, 0xffff, 1024))
		}
		if n := pack.Room(view, need(1, 64)); n != 16*spots {
			t.Error(spots, n)
		}
		if n := pack.Room(view, need(16, 1)); n != spots {
			t.Error(spots, n)
		}
	}
}

// P5.1: members go into the spots of more room first, of like ones into those ahead; into each as many as fit.
func TestPlace(t *testing.T) {
	for i, x := range []struct {
		view    []api.Free
		s       api.Shape
		members int
		want    []api.Slot
	}{
		// One spot.
		{rack([]uint64{1}), need(1, 0), 1, []api.Slot{at(0, 0, 1, 0)}},
		{rack([]uint64{0b110110}, 7), need(2, 3), 1, []api.Slot{at(0, 0, 0b110, 3)}},
		{rack([]uint64{0b110110}, 7), need(2, 3), 2, []api.Slot{at(0, 0, 0b110, 3), at(0, 0, 0b110000, 3)}},

		// Spots of like room.
		{rack([]uint64{0b11, 0b110, 0b1100}), need(2, 0), 1, []api.Slot{at(0, 0, 0b11, 0)}},
		{rack([]uint64{0b11, 0b110, 0b1100}), need(2, 0), 3, []api.Slot{at(0, 0, 0b11, 0), at(0, 1, 0b110, 0), at(1, 0, 0b1100, 0)}},
		// Like in room, though more is free behind: one fits into each.
		{rack([]uint64{0b11, 0b111}, 0, 9), need(2, 0), 2, []api.Slot{at(0, 0, 0b11, 0), at(0, 1, 0b11, 0)}},
		// The one with more free has less room.
		{rack([]uint64{0xffff, 0b11}, 1, 2), need(1, 1), 2, []api.Slot{at(0, 1, 1, 1), at(0, 1, 2, 1)}},

		// Spots of unlike room.
		{cores(1, 3, 2), need(0, 1), 6, []api.Slot{at(0, 1, 0, 1), at(0, 1, 0, 1), at(0, 1, 0, 1), at(1, 0, 0, 1), at(1, 0, 0, 1), at(0, 0, 0, 1)}},
		{cores(1, 3, 2), need(0, 1), 4, []api.Slot{at(0, 1, 0, 1), at(0, 1, 0, 1), at(0, 1, 0, 1), at(1, 0, 0, 1)}},
		{cores(1, 3, 2), need(0, 1), 3, []api.Slot{at(0, 1, 0, 1), at(0, 1, 0, 1), at(0, 1, 0, 1)}},
		{cores(1, 3, 2), need(0, 1), 2, []api.Slot{at(0, 1, 0, 1), at(0, 1, 0, 1)}},
		{cores(2, 4, 0, 2, 4), need(0, 2), 6, []api.Slot{at(0, 1, 0, 2), at(0, 1, 0, 2), at(2, 0, 0, 2), at(2, 0, 0, 2), at(0, 0, 0, 2), at(1, 1, 0, 2)}},
		// A spot into which just as many fit as are left, but that is behind a roomier one.
		{cores(1, 2), need(0, 1), 1, []api.Slot{at(0, 1, 0, 1)}},

		// The order is the view's, not that of the spots.
		{[]api.Free{free(3, 1, 0b100, 0), free(0, 2, 0b10, 0), free(3, 0, 1, 0)}, need(1, 0), 3, []api.Slot{at(3, 1, 0b100, 0), at(0, 2, 0b10, 0), at(3, 0, 1, 0)}},

		// Both kinds, one of them, and all of a spot.
		{rack([]uint64{0xffff, 0xffff}, 1024, 1024), need(16, 1024), 2, []api.Slot{at(0, 0, 0xffff, 1024), at(0, 1, 0xffff, 1024)}},
		{rack([]uint64{0b1011}, 0), need(3, 0), 1, []api.Slot{at(0, 0, 0b1011, 0)}},
		{rack([]uint64{0b1011}, 5), need(0, 5), 1, []api.Slot{at(0, 0, 0, 5)}},
		{rack([]uint64{1<<63 | 1<<15}), need(1, 0), 2, []api.Slot{at(0, 0, 1<<15, 0), at(0, 0, 1<<63, 0)}},

		// More than 16 that fit are no more than 16: the one ahead stays ahead.
		{cores(16, 1<<20), need(0, 1), 1, []api.Slot{at(0, 0, 0, 1)}},
		{cores(15, 17, 1<<20), need(0, 1), 1, []api.Slot{at(0, 1, 0, 1)}},
	} {
		t.Run(fmt.Sprint(i), func(t *testing.T) { placed(t, x.view, x.s, x.members, x.want) })
	}
}

// P5.1: 1 to 16 members in one spot, in spots of one each, and in two that are filled one behind the other.
func TestPlaceSixteen(t *testing.T) {
	var each []api.Free
	var pieces, singles, halves []api.Slot
	for k := range 16 {
		each = append(each, free(k, 0, 1<<k, 1))
		pieces = append(pieces, at(0, 0, 1<<k, 64))
		singles = append(singles, at(k, 0, 1<<k, 1))
		halves = append(halves, at(0, k/8, 0b11<<(k%8*2), 0))
	}
	for n := 1; n <= 16; n++ {
		placed(t, rack([]uint64{0xffff}, 1024), need(1, 64), n, pieces[:n])
		placed(t, each, need(1, 1), n, singles[:n])
		placed(t, rack([]uint64{0xffff, 0xffff}), need(2, 0), n, halves[:n])
	}
	refused(t, rack([]uint64{0x7fff}, 1024), need(1, 64), 16, api.ErrFit)
	refused(t, rack([]uint64{0xffff}, 1023), need(1, 64), 16, api.ErrFit)
	refused(t, each[1:], need(1, 1), 16, api.ErrFit)
}

// P5.1: room that is one member less than is asked for.
func TestPlaceNoRoom(t *testing.T) {
	for _, x := range []struct {
		view    []api.Free
		s       api.Shape
		members int
	}{
		{nil, need(1, 0), 1},
		{[]api.Free{}, need(0, 1), 16},
		{rack([]uint64{0}), need(1, 0), 1},
		{rack([]uint64{0}), need(0, 1), 1},
		{rack([]uint64{1}), need(1, 0), 2},
		{rack([]uint64{0b11, 0b1, 0b110}), need(2, 0), 3},
		// Together they have enough, none of them for itself.
		{rack([]uint64{0b1, 0b1}), need(2, 0), 1},
		{cores(2, 2, 2), need(0, 3), 1},
		{rack([]uint64{0xffff, 0}, 0, 1024), need(1, 1), 1},
		{cores(3, 1, 1), need(0, 1), 6},
		{cores(8, 7), need(0, 1), 16},
	} {
		refused(t, x.view, x.s, x.members, api.ErrFit)
	}
}

// P5.1: shapes that may not be, and members below 1 or above 16; this is told ahead of ErrFit.
func TestPlaceWrong(t *testing.T) {
	views := [][]api.Free{nil, rack([]uint64{0}), rack([]uint64{0xffff, every}, 1<<20, 1024)}
	for _, view := range views {
		for _, n := range wrongMembers() {
			refused(t, view, need(1, 0), n, api.ErrRange)
			refused(t, view, need(0, 1), n, api.ErrRange)
			refused(t, view, api.Shape{}, n, api.ErrRange)
		}
		for _, s := range wrongShapes() {
			for n := range 18 {
				refused(t, view, s, n, api.ErrRange)
			}
		}
	}
}

// P5.1: as many members as the shape has least or most play no part.
func TestPlaceWhateverMinAndMax(t *testing.T) {
	s := api.Shape{Gpus: 1, Min: 3, Max: 4}
	placed(t, rack([]uint64{0b11}), s, 2, []api.Slot{at(0, 0, 1, 0), at(0, 0, 2, 0)})
	placed(t, rack([]uint64{0b11111}), s, 5, []api.Slot{at(0, 0, 1, 0), at(0, 0, 2, 0), at(0, 0, 4, 0), at(0, 0, 8, 0), at(0, 0, 16, 0)})
}

// P5.1: drawn views, and every number of members, against pieces that are cut unit by unit.
func TestPlaceAll(t *testing.T) {
	d := draws(0x9e3779b97f4a7c15)
	for range 3000 {
		view, s := d.view(7, 12), d.shape()
		room := 0
		for _, f := range view {
			room += slowFits(s, f)
		}
		if n := pack.Room(view, s); n != room {
			t.Fatalf("Room(%v, %v) = %d, want %d", view, s, n, room)
		}
		for n := 1; n <= 16; n++ {
			if n > room {
				refused(t, view, s, n, api.ErrFit)
			} else {
				placed(t, view, s, n, slowPlace(view, s, n))
			}
		}
	}
}

// P5.1: spots that are alike stay in the view's order, however many there are.
func TestPlaceManyAlike(t *testing.T) {
	for _, spots := range []int{12, 13, 40, 64, 300} {
		var view []api.Free
		for k := range spots {
			view = append(view, free(spots-k, k%3, 0b11<<(k%5), 4-k%2))
		}
		for _, s := range []api.Shape{need(2, 2), need(0, 2), need(1, 0), need(0, 4)} {
			for n := 1; n <= min(16, pack.Room(view, s)); n++ {
				placed(t, view, s, n, slowPlace(view, s, n))
			}
		}
	}
}

// P5.2: calls of Less and of More that are right.
func TestTurnRight(t *testing.T) {
	view := []api.Free{free(1, 0, 0b1110, 8), free(0, 1, 0, 0), free(0, 0, every, 1<<20)}
	for _, x := range []struct {
		slots []api.Slot
		want  []api.Free
	}{
		{nil, view},
		{[]api.Slot{}, view},
		// Slots of nothing, of spots that are there.
		{[]api.Slot{at(1, 0, 0, 0), at(0, 1, 0, 0)}, view},
		{[]api.Slot{at(1, 0, 0b100, 3)}, []api.Free{free(1, 0, 0b1010, 5), view[1], view[2]}},
		// Two of one spot, one of another between.
		{[]api.Slot{at(1, 0, 0b100, 3), at(0, 0, 1<<63|1, 1<<20-1), at(1, 0, 0b10, 4)}, []api.Free{free(1, 0, 0b1000, 1), view[1], free(0, 0, every>>1-1, 1)}},
		// A spot's last Gpu and last Cpu.
		{[]api.Slot{at(1, 0, 0b1010, 7), at(1, 0, 0b100, 1)}, []api.Free{free(1, 0, 0, 0), view[1], view[2]}},
		{[]api.Slot{at(0, 0, every, 1<<20)}, []api.Free{view[0], view[1], free(0, 0, 0, 0)}},
		// All there is, spot by spot.
		{[]api.Slot{at(0, 0, every, 1<<20), at(1, 0, 0b1110, 8)}, []api.Free{free(1, 0, 0, 0), view[1], free(0, 0, 0, 0)}},
	} {
		less(t, view, x.slots, x.want, api.OK)
		more(t, x.want, x.slots, view, api.OK)
	}
	less(t, nil, nil, nil, api.OK)
	more(t, []api.Free{}, []api.Slot{}, nil, api.OK)
}

// P5.2: each error of Less.
func TestLessWrong(t *testing.T) {
	view := []api.Free{free(0, 0, 0b1011, 9), free(0, 1, 0, 0), free(2, 3, 0b100, 1<<20)}
	for _, x := range []struct {
		s api.Slot
		e api.Errno
	}{
		{at(0, 0, 0b11, -1), api.ErrRange},
		{at(0, 0, 0, -1), api.ErrRange},
		{at(0, 0, 0, math.MinInt), api.ErrRange},
		{at(1, 0, 0, 0), api.ErrNone},
		{at(1, 0, 1, 1), api.ErrNone},
		{at(0, 2, 0, 0), api.ErrNone},
		{at(0, -1, 0, 0), api.ErrNone},
		{at(-1, 0, 0, 0), api.ErrNone},
		{at(3, 2, 0, 0), api.ErrNone},
		{at(1<<32, 0, 0, 0), api.ErrNone},
		{at(math.MaxInt, math.MinInt, 0, 0), api.ErrNone},
		{at(0, 0, 0b100, 0), api.ErrBusy},
		{at(0, 0, 0b1111, 0), api.ErrBusy},
		{at(0, 0, 1<<63|1, 0), api.ErrBusy},
		{at(0, 0, 0b1011, 10), api.ErrBusy},
		{at(0, 0, 0, 10), api.ErrBusy},
		{at(0, 0, 0, math.MaxInt), api.ErrBusy},
		{at(0, 1, 1, 0), api.ErrBusy},
		{at(0, 1, 0, 1), api.ErrBusy},
		{at(2, 3, 0b100, 1<<20+1), api.ErrBusy},
		{at(2, 3, every, 0), api.ErrBusy},

		// Several at once.
		{at(1, 0, 0, -1), api.ErrRange},
		{at(0, 0, 0b100, -1), api.ErrRange},
		{at(9, 9, every, math.MinInt), api.ErrRange},
		{at(1, 0, every, math.MaxInt), api.ErrNone},
		{at(0, 0, 0b100, 10), api.ErrBusy},
	} {
		less(t, view, []api.Slot{x.s}, nil, x.e)
		less(t, view, []api.Slot{at(0, 0, 1, 1), x.s}, nil, x.e)
		less(t, view, []api.Slot{x.s, at(0, 0, 1, 1)}, nil, x.e)
	}
	less(t, nil, []api.Slot{at(0, 0, 0, 0)}, nil, api.ErrNone)
	less(t, nil, []api.Slot{at(0, 0, 0, -1)}, nil, api.ErrRange)
}

// P5.2: each error of More.
func TestMoreWrong(t *testing.T) {
	view := []api.Free{free(0, 0, 0b1011, 9), free(0, 1, 0, 0), free(2, 3, 0b100, 1<<20)}
	for _, x := range []struct {
		s api.Slot
		e api.Errno
	}{
		{at(0, 0, 0b100, -1), api.ErrRange},
		{at(0, 1, 0, math.MinInt), api.ErrRange},
		{at(1, 0, 0, 0), api.ErrNone},
		{at(0, 2, 0b100, 1), api.ErrNone},
		{at(0, -1, 0, 0), api.ErrNone},
		{at(3, 2, 0, 0), api.ErrNone},
		{at(1<<32, 0, 0, 0), api.ErrNone},
		{at(0, 0, 1, 0), api.ErrTwice},
		{at(0, 0, 0b1100, 0), api.ErrTwice},
		{at(0, 0, every, 0), api.ErrTwice},
		{at(2, 3, 0b100, 0), api.ErrTwice},
		{at(0, 0, 0, 1<<20-8), api.ErrOver},
		{at(0, 0, 0b100, 1<<20-8), api.ErrOver},
		{at(0, 1, every, 1<<20+1), api.ErrOver},
		{at(2, 3, 0, 1), api.ErrOver},
		{at(2, 3, 0, 1<<20), api.ErrOver},
		{at(0, 1, 0, math.MaxInt), api.ErrOver},
		{at(0, 0, 0, math.MaxInt), api.ErrOver},
		{at(2, 3, 0b11, math.MaxInt-1<<20+1), api.ErrOver},
		{at(2, 3, 0b11, math.MaxInt-1<<20), api.ErrOver},

		// Several at once.
		{at(1, 0, 1, -1), api.ErrRange},
		{at(0, 0, 1, -1), api.ErrRange},
		{at(9, 9, every, math.MaxInt), api.ErrNone},
		{at(0, 0, 1, math.MaxInt), api.ErrTwice},
		{at(2, 3, every, 1), api.ErrTwice},
	} {
		more(t, view, []api.Slot{x.s}, nil, x.e)
		more(t, view, []api.Slot{at(0, 0, 0b10000, 0), x.s}, nil, x.e)
		more(t, view, []api.Slot{x.s, at(0, 0, 0b10000, 0)}, nil, x.e)
	}
	more(t, nil, []api.Slot{at(0, 0, 0, 0)}, nil, api.ErrNone)
	more(t, nil, []api.Slot{at(0, 0, 0, -1)}, nil, api.ErrRange)
}

// P5.2: up to 2^20 Cpus, in one slot and in several.
func TestMoreUpToTheBound(t *testing.T) {
	view, full := cores(9, 0), cores(1<<20, 0)
	more(t, view, []api.Slot{at(0, 0, 0, 1<<20-9)}, full, api.OK)
	more(t, view, []api.Slot{at(0, 0, 0, 1<<20-10), at(0, 0, 0, 1)}, full, api.OK)
	more(t, view, []api.Slot{at(0, 1, 0, 1<<20)}, cores(9, 1<<20), api.OK)
	more(t, full, []api.Slot{at(0, 0, 1, 0)}, rack([]uint64{1, 0}, 1<<20), api.OK)
	more(t, view, []api.Slot{at(0, 0, 0, 1<<20-8)}, nil, api.ErrOver)
	more(t, view, []api.Slot{at(0, 0, 0, 1<<20-9), at(0, 0, 0, 1)}, nil, api.ErrOver)
	more(t, view, []api.Slot{at(0, 1, 0, 1<<20), at(0, 1, 0, 1<<20)}, nil, api.ErrOver)
}

// P5.2: slots are gone through one by one: each behind what those ahead took or put there, the first wrong one is told.
func TestTurnSlotBySlot(t *testing.T) {
	view := rack([]uint64{0b11, 0b100}, 4, 2)
	for _, x := range []struct {
		slots []api.Slot
		e     api.Errno
	}{
		{[]api.Slot{at(0, 0, 1, 0), at(0, 0, 1, 0)}, api.ErrBusy},
		{[]api.Slot{at(0, 0, 1, 3), at(0, 0, 2, 2)}, api.ErrBusy},
		{[]api.Slot{at(0, 0, 0b11, 0), at(0, 1, 0b100, 2), at(0, 0, 0b10, 0)}, api.ErrBusy},
		{[]api.Slot{at(0, 0, 0, 4), at(0, 0, 0, 1), at(0, 0, 0, -1)}, api.ErrBusy},
		{[]api.Slot{at(0, 0, 0, 5), at(7, 0, 0, 0)}, api.ErrBusy},
		{[]api.Slot{at(7, 0, 0, 0), at(0, 0, 0, 5)}, api.ErrNone},
		{[]api.Slot{at(7, 0, 0, 0), at(0, 0, 0, -1)}, api.ErrNone},
		{[]api.Slot{at(0, 0, 0, -1), at(7, 0, 0, 0)}, api.ErrRange},
		{[]api.Slot{at(0, 0, 1, 1), at(0, 0, 0, -1), at(0, 0, 1, 0)}, api.ErrRange},
	} {
		less(t, view, x.slots, nil, x.e)
	}
	for _, x := range []struct {
		slots []api.Slot
		e     api.Errno
	}{
		{[]api.Slot{at(0, 0, 0b100, 0), at(0, 0, 0b100, 0)}, api.ErrTwice},
		{[]api.Slot{at(0, 0, 0b100, 0), at(0, 1, 0b1000, 0), at(0, 0, 0b1100, 0)}, api.ErrTwice},
		{[]api.Slot{at(0, 0, 0, 1<<20-4), at(0, 0, 0, 1), at(0, 0, 1, 0)}, api.ErrOver},
		{[]api.Slot{at(0, 0, 1, 0), at(0, 0, 0, 1<<20)}, api.ErrTwice},
		{[]api.Slot{at(0, 0, 0, 1<<20), at(0, 0, 1, 0)}, api.ErrOver},
		{[]api.Slot{at(7, 0, 0, 0), at(0, 0, 1, 0)}, api.ErrNone},
		{[]api.Slot{at(0, 0, 1, 0), at(7, 0, 0, 0)}, api.ErrTwice},
		{[]api.Slot{at(7, 0, 0, 0), at(0, 0, 0, -1)}, api.ErrNone},
		{[]api.Slot{at(0, 0, 0, -1), at(7, 0, 0, 0)}, api.ErrRange},
	} {
		more(t, view, x.slots, nil, x.e)
	}
}

// P5.2: every slot of a small spot, and every two of them, in each state of it.
func TestTurnEverySlot(t *testing.T) {
	var slots []api.Slot
	for m := range uint64(4) {
		for cpus := -1; cpus < 3; cpus++ {
			slots = append(slots, at(0, 0, m, cpus))
		}
	}
	slots = append(slots, at(0, 1, 1, 1), at(1, 0, 1, 1), at(0, 0, 1, 1<<20), at(0, 0, 0, 1<<20-1))
	for m := range uint64(4) {
		for cpus := range 3 {
			view := rack([]uint64{m, 3}, cpus, 2)
			for _, a := range slots {
				for _, b := range slots {
					pair := []api.Slot{a, b}
					for _, l := range [][]api.Slot{pair[:1], pair} {
						want, e := slowTurn(view, l, -1)
						less(t, view, l, want, e)
						want, e = slowTurn(view, l, 1)
						more(t, view, l, want, e)
					}
				}
			}
		}
	}
}

// slots is drawn slots of a view's spots, now and then of one that it doesn't have.
func (d *draws) slots(view []api.Free) []api.Slot {
	var slots []api.Slot
	for range d.below(6) {
		s := at(9, 9, 0, 0)
		if len(view) > 0 && d.below(12) > 0 {
			f := view[d.below(len(view))]
			s.Spot, s.Mask = f.Spot, uint64(1)<<d.below(16)
			if d.below(2) == 0 {
				s.Mask = f.Mask & -f.Mask
			}
			s.Cpus = d.below(5) - d.below(12)/11
		}
		slots = append(slots, s)
	}
	return slots
}

// P5.2: drawn views and slots, against each unit for itself.
func TestTurnAll(t *testing.T) {
	d := draws(0x2545f4914f6cdd1d)
	right := 0
	for range 6000 {
		view := d.view(6, 9)
		slots := d.slots(view)
		want, e := slowTurn(view, slots, -1)
		less(t, view, slots, want, e)
		if e == api.OK && len(slots) > 1 {
			right++
		}
		want, e = slowTurn(view, slots, 1)
		more(t, view, slots, want, e)
		if e == api.OK && len(slots) > 1 {
			right++
		}
	}
	if right < 200 {
		t.Error(right)
	}
}

// fewest is in how many spots so many members have room, tried with each set of spots.
func fewest(view []api.Free, s api.Shape, members int) int {
	least := len(view) + 1
	for set := range 1 << len(view) {
		room := 0
		for k, f := range view {
			if set>>k&1 == 1 {
				room += slowFits(s, f)
			}
		}
		if room >= members {
			least = min(least, bits.OnesCount(uint(set)))
		}
	}
	return least
}

// P5.3: members are placed just if there is room, in as few spots as there can be; without what was placed the view is sound, and with it besides it is as it was.
func TestPlacings(t *testing.T) {
	d := draws(0xd1342543de82ef95)
	for range 1500 {
		view, s := d.view(7, 12), d.shape()
		for n := 1; n <= 16; n++ {
			slots, e := pack.Place(view, s, n)
			if (e == api.OK) != (pack.Room(view, s) >= n) || e != api.OK && e != api.ErrFit {
				t.Fatal(view, s, n, e)
			}
			if e != api.OK {
				continue
			}
			spots := map[api.Spot]bool{}
			for _, p := range slots {
				spots[p.Spot] = true
				if bits.OnesCount64(p.Mask) != s.Gpus || p.Cpus != s.Cpus {
					t.Fatal(view, s, n, p)
				}
			}
			if len(slots) != n || len(spots) != fewest(view, s, n) {
				t.Fatalf("Place(%v, %v, %d) = %v", view, s, n, slots)
			}
			left, e := pack.Less(view, slots)
			if e != api.OK || !sound(view, left) {
				t.Fatal(view, slots, left, e)
			}
			more(t, left, slots, view, api.OK)
			if pack.Room(left, s) < pack.Room(view, s)-n {
				t.Fatal(view, s, n, left)
			}
		}
	}
}

// sound tells whether in left there are the view's spots, and of each no more than there was.
func sound(view, left []api.Free) bool {
	for k, f := range left {
		if len(left) != len(view) || f.Spot != view[k].Spot || f.Mask&^view[k].Mask != 0 || f.Cpus < 0 || f.Cpus > view[k].Cpus {
			return false
		}
	}
	return len(left) == len(view)
}

// P5.3: placed one by one till there is no room, of each spot there is nothing left that a member would fit into.
func TestPlacedTillFull(t *testing.T) {
	view, s := rack([]uint64{0xffff, 0b111, 0, 1}, 20, 4, 9, 0), need(2, 1)
	left, all := view, []api.Slot{}
	for range pack.Room(view, s) {
		one, e := pack.Place(left, s, 1)
		if e != api.OK {
			t.Fatal(left, e)
		}
		left, e = pack.Less(left, one)
		if e != api.OK {
			t.Fatal(one, e)
		}
		all = append(all, one...)
	}
	refused(t, left, s, 1, api.ErrFit)
	for _, f := range left {
		if shape.Fits(s, f) != 0 {
			t.Error(f)
		}
	}
	if len(all) != 9 {
		t.Error(all)
	}
	less(t, view, all, left, api.OK)
	more(t, left, all, view, api.OK)
}

// Rule 3: views and slots that are handed in stay as they are, their spare room too, in calls that are right and in those that are refused.
func TestArgumentsAreLeft(t *testing.T) {
	spare := free(8, 8, 0b101, 5)
	roomy := append(rack([]uint64{1, 0b111, 0b11}, 1, 9, 4), spare, spare)
	tail := at(8, 8, 0b10, 7)
	slots := []api.Slot{at(0, 1, 1, 2), at(1, 0, 2, 1), at(0, 1, 0b100, 7), tail, tail}
	view, was, slotsWere := roomy[:3], slices.Clone(roomy), slices.Clone(slots)
	for n := range 19 {
		pack.Room(view, need(1, 1))
		pack.Place(view, need(1, 1), n)
	}
	pack.Place(view, api.Shape{}, 1)
	for k := range 4 {
		pack.Less(view, slots[:k])
		pack.More(view, slots[:k])
		pack.More(view, []api.Slot{at(0, 0, 0b10, 1), at(0, 0, 0b100, 1), at(7, 7, 0, 0)}[:k])
	}
	pack.Less(view, append(slots[:3:3], at(0, 0, 0, -1)))
	if !slices.Equal(roomy, was) || !slices.Equal(slots, slotsWere) {
		t.Error(roomy, slots)
	}
}

// Rule 3: an answer can be written into, and have things put behind it, without changing arguments or other answers.
func TestAnswersAreNew(t *testing.T) {
	roomy := append(rack([]uint64{0b11, 0b111}, 4, 9), free(8, 8, 1, 1))
	view, was := roomy[:2], slices.Clone(roomy)
	slots := []api.Slot{}
	for range 3 {
		l, e := pack.Place(view, need(1, 1), 4)
		if want := slowPlace(was[:2], need(1, 1), 4); !slices.Equal(l, want) || e != api.OK {
			t.Fatal(l, e)
		}
		for k := range l {
			l[k] = at(5, 5, every, 5)
		}
		_ = append(l, l...)

		for _, turn := range []func([]api.Free, []api.Slot) ([]api.Free, api.Errno){pack.Less, pack.More} {
			a, e := turn(view, slots)
			b, _ := turn(view, nil)
			if !slices.Equal(a, was[:2]) || !slices.Equal(b, was[:2]) || e != api.OK {
				t.Fatal(a, b, e)
			}
			for k := range a {
				a[k] = free(5, 5, every, 5)
			}
			_ = append(a, a...)
			if !slices.Equal(b, was[:2]) || !slices.Equal(roomy, was) {
				t.Fatal(b, roomy)
			}
		}
	}
}

// Rule 3: what was answered stays as it is, when the arguments are written into, and when others are asked.
func TestAnswersStay(t *testing.T) {
	view := rack([]uint64{0b11, 0b111}, 4, 9)
	slots := []api.Slot{at(0, 1, 0b10, 3)}
	placedThen, _ := pack.Place(view, need(1, 1), 2)
	lessThen, _ := pack.Less(view, slots)
	moreThen, _ := pack.More(lessThen, slots)
	view[0], view[1], slots[0] = free(1, 1, 0, 0), free(2, 2, 0, 0), at(0, 0, 1, 1)
	pack.Place(view, need(0, 1), 1)
	pack.Less(view, slots)
	if !slices.Equal(placedThen, []api.Slot{at(0, 1, 1, 1), at(0, 1, 2, 1)}) {
		t.Error(placedThen)
	}
	if !slices.Equal(lessThen, rack([]uint64{0b11, 0b101}, 4, 6)) || !slices.Equal(moreThen, rack([]uint64{0b11, 0b111}, 4, 9)) {
		t.Error(lessThen, moreThen)
	}
}

// Rule 5: of views that the chapter shuts out nothing is promised, but the calls end.
func TestOtherViewsEnd(t *testing.T) {
	numbers := []int{math.MinInt, -1, 0, 1, 1<<20 + 1, math.MaxInt}
	for _, a := range numbers {
		for _, b := range numbers {
			view := []api.Free{free(0, 0, 1, a), free(0, 0, 2, b), free(a, b, every, b)}
			for _, c := range numbers {
				pack.Room(view, need(1, 1))
				pack.Place(view, need(1, 1), 3)
				pack.Less(view, []api.Slot{at(0, 0, 1, c), at(a, b, 2, c)})
				pack.More(view, []api.Slot{at(0, 0, 1, c), at(a, b, 0, c)})
			}
		}
	}
}
