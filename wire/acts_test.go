package wire_test

import (
	"math"
	"slices"
	"testing"

	"ensemble/api"
	"ensemble/wire"
)

// wrongKinds are no Kinds; some of them have a Kind's lowest byte.
func wrongKinds() []int {
	return []int{-1, -2, -8, -255, -256, -251, 8, 9, 13, 127, 128, 255, 256, 257, 261, 263, 65536, 1 << 32, 1<<32 + 5, math.MinInt, math.MinInt + 6, math.MaxInt}
}

// full has each number that a Kind has bytes for as great as they hold.
func full(kind int) numbers {
	var n numbers
	for k, w := range widths(kind) {
		n[k] = most(w)
	}
	return n
}

// each is of every Kind an entry, put together by hand, one behind the other.
const each = "\x00\x12\x34\x56\x78\x9a\xbc\xde\xf0\x12\x34\x56" + "\x01\x12\x34" + "\x02\x56\x78" + "\x03\x9a" + "\x04\xbc" + "\x05" + "\x06\xde" + "\x07\xf0\x12"

func eachAct() []wire.Entry {
	return []wire.Entry{
		{Act: api.Act{Job: api.Job{Id: 0x1234, Queue: 0x56, Prio: 0x78, Runtime: 0x9abc, Shape: api.Shape{Gpus: 0xde, Cpus: 0xf012, Min: 0x34, Max: 0x56}}}},
		{Act: api.Act{Kind: api.Cancel, N: 0x1234}, At: 12},
		{Act: api.Act{Kind: api.Finish, N: 0x5678}, At: 15},
		{Act: api.Act{Kind: api.Drain, N: 0x9a}, At: 18},
		{Act: api.Act{Kind: api.Undrain, N: 0xbc}, At: 20},
		{Act: api.Act{Kind: api.Tick}, At: 22},
		{Act: api.Act{Kind: api.Pick, N: 0xde}, At: 23},
		{Act: api.Act{Kind: api.Shrink, N: 0xf012}, At: 25},
	}
}

// The chapter's examples.
func TestExamples(t *testing.T) {
	if s, e := wire.Put(api.Act{Kind: api.Pick, N: 2}); s != "\x06\x02" || e != api.OK {
		t.Errorf("%q %v", s, e)
	}
	tells(t, "\x09\x05", wire.Entry{Err: api.ErrForm}, wire.Entry{Act: api.Act{Kind: api.Tick}, At: 1})
}

// P17.1, P17.2, P17.3: an entry of each Kind, each number of which has bytes unlike all others.
func TestEachKind(t *testing.T) {
	all := ""
	for k, x := range eachAct() {
		s, e := wire.Put(x.Act)
		till := len(each)
		if k < 7 {
			till = eachAct()[k+1].At
		}
		if s != each[x.At:till] || e != api.OK {
			t.Errorf("%d: %q %v", k, s, e)
		}
		all += s
	}
	if all != each {
		t.Errorf("%q", all)
	}
	tells(t, each, eachAct()...)
}

// P17.1: a Kind without numbers, and one with all numbers as great as their bytes hold.
func TestEmptyAndFull(t *testing.T) {
	for kind := range 8 {
		for _, n := range []numbers{{}, full(kind)} {
			if e := puts(t, kind, n); e != api.OK {
				t.Error(kind, n, e)
			}
		}
	}
	if s, _ := wire.Put(full(api.Submit).act(api.Submit)); s != "\x00\xff\xff\xff\xff\xff\xff\xff\xff\xff\xff\xff" {
		t.Errorf("%q", s)
	}
}

// P17.1: each field of each Kind at all its edges, alone, beside full ones, and beside one that doesn't fit.
func TestEachField(t *testing.T) {
	edges := []int{
		0, 1, 2, 127, 128, 254, 255, 256, 257, 32767, 32768, 65279, 65280, 65534, 65535, 65536, 65537, 1<<24 - 1, 1 << 24, 1<<31 - 1, 1 << 31, 1<<32 - 1, 1 << 32, 1<<32 + 1, 1 << 40, 1 << 56, math.MaxInt,
		-1, -2, -255, -256, -65535, -65536, -1 << 31, -1 << 32, -1<<32 + 1, math.MinInt, math.MinInt + 1,
	}
	count := map[api.Errno]int{}
	for kind := range 8 {
		for k, w := range widths(kind) {
			for _, x := range edges {
				alone, beside, wrong := numbers{}, full(kind), full(kind)
				alone[k], beside[k] = x, x
				wrong[(k+1)%9], wrong[k] = -1, x
				a, b := puts(t, kind, alone), puts(t, kind, beside)
				if a != b {
					t.Fatal(kind, k, x, a, b)
				}
				if fits := x >= 0 && x <= most(w); fits != (a == api.OK) {
					t.Fatal(kind, k, x, a)
				}
				count[a]++
				if e := puts(t, kind, wrong); e == api.OK {
					t.Fatal(kind, k, x)
				}
			}
		}
	}
	// Of 9 times 8 fields 14 have bytes.
	if count[api.OK] < 14*7 || count[api.ErrRange] < 14*20 || count[api.ErrForm] != 58*(len(edges)-1) {
		t.Error(count)
	}
}

// P17.1: each field that has no bytes, not zero, alone and beside one that doesn't fit: ErrForm is told first.
func TestFormFirst(t *testing.T) {
	for kind := range 8 {
		for k, w := range widths(kind) {
			if w > 0 {
				continue
			}
			for _, x := range []int{1, -1, 255, 256, 65536, 1 << 32, math.MinInt, math.MaxInt} {
				n := numbers{}
				n[k] = x
				if e := puts(t, kind, n); e != api.ErrForm {
					t.Fatal(kind, n, e)
				}
				for i, w := range widths(kind) {
					for _, y := range []int{-1, most(w) + 1, math.MinInt, math.MaxInt} {
						if w == 0 {
							continue
						}
						n := full(kind)
						n[k], n[i] = x, y
						if e := puts(t, kind, n); e != api.ErrForm {
							t.Fatal(kind, n, e)
						}
					}
				}
			}
		}
	}
}

// P17.1: no such Kind is ErrForm, whatever else the act has.
func TestWrongKinds(t *testing.T) {
	for _, kind := range wrongKinds() {
		for _, n := range []numbers{{}, {1}, {-1}, {256}, {65536}, {0, 1}, {0, 65536, 256, -1}, full(api.Submit), full(api.Cancel), {1, 1, 1, 1, 1, 1, 1, 1, 1}} {
			if e := puts(t, kind, n); e != api.ErrForm {
				t.Error(kind, n, e)
			}
		}
	}
}

// P17.1: every set of a Submit's fields that don't fit, below 0 or too great.
func TestSeveralFields(t *testing.T) {
	ws := widths(api.Submit)
	for set := range 1 << 8 {
		for _, low := range []bool{false, true} {
			n := full(api.Submit)
			for k := range 8 {
				if set>>k&1 == 0 {
					continue
				}
				n[k+1] = most(ws[k+1]) + 1
				if low {
					n[k+1] = -1 - k
				}
			}
			want := api.ErrRange
			if set == 0 {
				want = api.OK
			}
			if e := puts(t, api.Submit, n); e != want {
				t.Fatal(n, e)
			}
			n[0] = 1
			if e := puts(t, api.Submit, n); e != api.ErrForm {
				t.Fatal(n, e)
			}
		}
	}
}

// P17.1, P17.3: drawn acts.
func TestDrawnActs(t *testing.T) {
	d := draws(17)
	count := map[api.Errno]int{}
	for range 60000 {
		kind := d.below(8)
		if d.below(20) == 0 {
			kind = d.of(wrongKinds()...)
		}
		var n numbers
		for k, w := range widths(kind) {
			if w > 0 {
				n[k] = d.number(w, 6)
			} else if d.below(60) == 0 {
				n[k] = d.of(1, -1, 255, 256, 1<<16, 1<<32, math.MaxInt, math.MinInt)
			}
		}
		count[puts(t, kind, n)]++
	}
	if count[api.OK] < 30000 || count[api.ErrRange] < 3000 || count[api.ErrForm] < 3000 {
		t.Error(count)
	}
}

// P17.2: no bytes have nothing; a byte alone is a Tick, too short for its Kind, or no Kind.
func TestNoneAndOne(t *testing.T) {
	tells(t, "")
	for b := range 256 {
		want := wire.Entry{Err: api.ErrForm}
		switch {
		case b == api.Tick:
			want = wire.Entry{Act: api.Act{Kind: api.Tick}}
		case b < 8:
			want = wire.Entry{Err: api.ErrShort}
		}
		tells(t, string([]byte{byte(b)}), want)
	}
}

// P17.2: an entry of each Kind is cut through at each of its bytes: all that is left is too short, whatever is ahead of it.
func TestCut(t *testing.T) {
	for kind := range 8 {
		s, _ := wire.Put(full(kind).act(kind))
		for n := 1; n < len(s); n++ {
			tells(t, s[:n], wire.Entry{Err: api.ErrShort})
			tells(t, "\x05"+s[:n], wire.Entry{Act: api.Act{Kind: api.Tick}}, wire.Entry{Err: api.ErrShort, At: 1})
			tells(t, "\xff"+s[:n], wire.Entry{Err: api.ErrForm}, wire.Entry{Err: api.ErrShort, At: 1})
			want := append(eachAct(), wire.Entry{Err: api.ErrShort, At: len(each)})
			tells(t, each+s[:n], want...)
		}
	}
	// What is left may look like entries.
	tells(t, "\x00\x05\x05\x05\x05\x05\x05\x05\x05\x05\x05", wire.Entry{Err: api.ErrShort})
	tells(t, "\x05\x01\x05", wire.Entry{Act: api.Act{Kind: api.Tick}}, wire.Entry{Err: api.ErrShort, At: 1})
	for n := range len(each) + 1 {
		reads(t, each[:n])
	}
}

// P17.2: each byte that is no Kind is an entry of its own, at the front, between entries and at the end, also several in a row.
func TestNoKinds(t *testing.T) {
	for b := 8; b < 256; b++ {
		wrong := string([]byte{byte(b)})
		for many := 1; many < 4; many++ {
			bad := ""
			for range many {
				bad += wrong
			}
			s, want := bad, []wire.Entry{}
			mark := func(at int) {
				for k := range many {
					want = append(want, wire.Entry{Err: api.ErrForm, At: at + k})
				}
			}
			mark(0)
			for k, x := range eachAct() {
				till := len(each)
				if k < 7 {
					till = eachAct()[k+1].At
				}
				want = append(want, wire.Entry{Act: x.Act, At: len(s)})
				s += each[x.At:till]
				mark(len(s))
				s += bad
			}
			tells(t, s, want...)
		}
	}
	// A byte that is no Kind is one of an entry's numbers, too.
	tells(t, "\x01\xff\x08\x08\x06\x09", wire.Entry{Act: api.Act{Kind: api.Cancel, N: 0xff08}}, wire.Entry{Err: api.ErrForm, At: 3}, wire.Entry{Act: api.Act{Kind: api.Pick, N: 9}, At: 4})
}

// P17.2, P17.3: all texts of up to two bytes, and all of up to five of some bytes.
func TestAllShort(t *testing.T) {
	for a := range 256 {
		for b := range 256 {
			reads(t, string([]byte{byte(a), byte(b)}))
		}
	}
	some := []byte{0, 1, 2, 3, 4, 5, 6, 7, 8, 255}
	for n, many := 1, 10; n < 6; n, many = n+1, many*10 {
		for x := range many {
			s := make([]byte, n)
			for k := range s {
				s[k] = some[x%10]
				x /= 10
			}
			reads(t, string(s))
		}
	}
}

// P17.2, P17.3: drawn bytes, of many entries.
func TestDrawnBytes(t *testing.T) {
	d := draws(171)
	count := map[api.Errno]int{}
	for range 4000 {
		s := make([]byte, d.below(200))
		for k := range s {
			s[k] = byte(d.of(d.below(9), d.below(256)))
		}
		for _, x := range reads(t, string(s)) {
			count[x.Err]++
		}
	}
	if count[api.OK] < 20000 || count[api.ErrForm] < 10000 || count[api.ErrShort] < 1500 {
		t.Error(count)
	}
}

// P17.3: drawn acts, put one behind the other, are told as they were, each where it begins; between them stand bytes that are no Kinds.
func TestRows(t *testing.T) {
	d := draws(1717)
	for range 300 {
		s, want := "", []wire.Entry{}
		for range d.below(100) {
			if d.below(9) == 0 {
				want = append(want, wire.Entry{Err: api.ErrForm, At: len(s)})
				s += string([]byte{byte(8 + d.below(248))})
				continue
			}
			kind := d.below(8)
			var n numbers
			for k, w := range widths(kind) {
				if w > 0 {
					n[k] = d.number(w, 0)
				}
			}
			one, e := wire.Put(n.act(kind))
			if e != api.OK {
				t.Fatal(kind, n, e)
			}
			want = append(want, wire.Entry{Act: n.act(kind), At: len(s)})
			s += one
		}
		tells(t, s, want...)
	}
}

// P17.2: a long text; its entries are as many as there are.
func TestLong(t *testing.T) {
	s := make([]byte, 0, 1<<20+16)
	for len(s) < 1<<20 {
		s = append(s, each...)
		s = append(s, 0xff)
	}
	l := wire.Entries(string(s))
	if want := entries(string(s)); !slices.Equal(l, want) {
		t.Error(len(l), len(want))
	}
}

// Rule 3: entries are new memory.
func TestEntriesAreNew(t *testing.T) {
	a := wire.Entries(each)
	b := wire.Entries(each)
	clear(a)
	_ = append(a, wire.Entry{At: 7})
	if !slices.Equal(b, eachAct()) || !slices.Equal(wire.Entries(each), eachAct()) {
		t.Error(b)
	}
}
