package script_test

import (
	"math"
	"slices"
	"strings"
	"testing"

	"ensemble/api"
	"ensemble/script"
)

// puts holds Bytes to what it has to tell, and Replies of that to the replies that these bytes are.
func puts(t *testing.T, want string, l ...api.Reply) {
	t.Helper()
	is := script.Bytes(l...)
	if is != want || is != told(l...) {
		t.Fatalf("Bytes(%v): %.99q, want %.99q", l, is, want)
	}
	low := make([]api.Reply, len(l))
	for k, r := range l {
		low[k] = lowest(r)
	}
	if again, e := script.Replies(is); !sameReplies(again, low) || e != api.OK {
		t.Fatalf("Replies(%.99q): %v %v, want %v", is, again, e, low)
	}
}

// lowest is a reply of the lowest bytes of each number, and of the first events.
func lowest(r api.Reply) api.Reply {
	low := api.Reply{Err: r.Err & 0xff}
	for _, x := range first(r).Events {
		low.Events = append(low.Events, api.Event{Kind: x.Kind & 0xff, Id: x.Id & 0xffff, N: x.N & 0xffffffff})
	}
	return low
}

// P18.2: each number of a reply at all its edges: it has its lowest bytes, the highest first, and changes none beside it.
func TestEachNumber(t *testing.T) {
	for _, x := range []struct {
		n             int
		one, two, all string
	}{
		{0, "\x00", "\x00\x00", "\x00\x00\x00\x00"}, {1, "\x01", "\x00\x01", "\x00\x00\x00\x01"}, {14, "\x0e", "\x00\x0e", "\x00\x00\x00\x0e"},
		{127, "\x7f", "\x00\x7f", "\x00\x00\x00\x7f"}, {128, "\x80", "\x00\x80", "\x00\x00\x00\x80"}, {255, "\xff", "\x00\xff", "\x00\x00\x00\xff"},
		{256, "\x00", "\x01\x00", "\x00\x00\x01\x00"}, {257, "\x01", "\x01\x01", "\x00\x00\x01\x01"}, {65535, "\xff", "\xff\xff", "\x00\x00\xff\xff"},
		{65536, "\x00", "\x00\x00", "\x00\x01\x00\x00"}, {1<<24 - 1, "\xff", "\xff\xff", "\x00\xff\xff\xff"}, {1 << 24, "\x00", "\x00\x00", "\x01\x00\x00\x00"},
		{0x12345678, "\x78", "\x56\x78", "\x12\x34\x56\x78"}, {api.MaxTick, "\x00", "\x00\x00", "\x40\x00\x00\x00"}, {api.Never, "\x01", "\x00\x01", "\x40\x00\x00\x01"},
		{1<<31 - 1, "\xff", "\xff\xff", "\x7f\xff\xff\xff"}, {1 << 31, "\x00", "\x00\x00", "\x80\x00\x00\x00"}, {1<<32 - 1, "\xff", "\xff\xff", "\xff\xff\xff\xff"},
		{1 << 32, "\x00", "\x00\x00", "\x00\x00\x00\x00"}, {1<<32 + 258, "\x02", "\x01\x02", "\x00\x00\x01\x02"}, {math.MaxInt, "\xff", "\xff\xff", "\xff\xff\xff\xff"},
		{-1, "\xff", "\xff\xff", "\xff\xff\xff\xff"}, {-2, "\xfe", "\xff\xfe", "\xff\xff\xff\xfe"}, {-255, "\x01", "\xff\x01", "\xff\xff\xff\x01"}, {-256, "\x00", "\xff\x00", "\xff\xff\xff\x00"},
		{-65536, "\x00", "\x00\x00", "\xff\xff\x00\x00"}, {-1 << 32, "\x00", "\x00\x00", "\x00\x00\x00\x00"}, {math.MinInt, "\x00", "\x00\x00", "\x00\x00\x00\x00"}, {math.MinInt + 1, "\x01", "\x00\x01", "\x00\x00\x00\x01"},
	} {
		puts(t, x.one+"\x00", api.Reply{Err: api.Errno(x.n)})
		puts(t, x.one+"\x01\x09\x00\x08\x00\x00\x00\x07", api.Reply{Err: api.Errno(x.n), Events: done(9, 8, 7).Events})
		puts(t, "\x00\x01"+x.one+"\x00\x08\x00\x00\x00\x07", done(x.n, 8, 7))
		puts(t, "\x00\x01\x09"+x.two+"\x00\x00\x00\x07", done(9, x.n, 7))
		puts(t, "\x00\x01\x09\x00\x08"+x.all, done(9, 8, x.n))
		puts(t, "\x00\x02\x09\x00\x08"+x.all+x.one+x.two+x.all, done(9, 8, x.n, x.n, x.n, x.n))
	}
}

// P18.2: each event that there is, and each error.
func TestKindsAndErrors(t *testing.T) {
	for kind := range 256 {
		one := digits(kind, 1)
		puts(t, "\x00\x01"+one+"\x00\x03\x00\x00\x00\x05", done(kind, 3, 5))
		puts(t, one+"\x00", refused(api.Errno(kind)))
		puts(t, one+"\x01"+one+"\x00\x03\x00\x00\x00\x05", api.Reply{Err: api.Errno(kind), Events: done(kind, 3, 5).Events})
	}
}

// many are so many events, each unlike the others.
func many(n int) api.Reply {
	var r api.Reply
	for k := range n {
		r.Events = append(r.Events, api.Event{Kind: 1 + k%11, Id: 1 + k, N: 70000 + k})
	}
	return r
}

// P18.2: of so many events the first 255 are told, whatever stands behind the reply.
func TestHowManyEvents(t *testing.T) {
	for _, n := range []int{0, 1, 2, 127, 128, 254, 255, 256, 257, 300, 510, 511, 512, 4096, 65536} {
		r := many(n)
		want := digits(0, 1) + digits(min(n, 255), 1)
		for k := range min(n, 255) {
			want += digits(1+k%11, 1) + digits(1+k, 2) + digits(70000+k, 4)
		}
		puts(t, want, r)
		puts(t, want+"\x03\x00"+want, r, refused(api.ErrNone), r)
		puts(t, "\x00\x00"+want, done(), r)
	}
	if s := script.Bytes(many(300)); len(s) != 2+7*255 || s[1] != 255 {
		t.Error(len(s))
	}
}

// P18.2: of none, of one and of several replies; none, nil and empty events are alike.
func TestRowsOfReplies(t *testing.T) {
	puts(t, "")
	puts(t, "", []api.Reply{}...)
	puts(t, "\x00\x00", api.Reply{})
	puts(t, "\x00\x00", api.Reply{Events: []api.Event{}})
	puts(t, "\x00\x00\x0a\x00", done(), refused(api.ErrForm))
	puts(t, "\x00\x00\x00\x00\x00\x00", done(), done(), done())
	puts(t, "\x00\x01\x01\x00\x02\x00\x00\x00\x03"+"\x04\x00"+"\x00\x02\x05\x00\x06\x00\x00\x00\x07\x08\x00\x09\x00\x00\x00\x0a", done(1, 2, 3), refused(4), done(5, 6, 7, 8, 9, 10))
	for _, s := range []string{"", "\x00\x00"} {
		if l, e := script.Replies(s); len(l) != len(s)/2 || e != api.OK {
			t.Errorf("%q: %v %v", s, l, e)
		}
	}
	row := []api.Reply{done(), many(1), refused(api.ErrState), many(255), many(3)}
	s := ""
	for k, r := range row {
		puts(t, s, row[:k]...)
		s += script.Bytes(r)
	}
	puts(t, s, row...)
}

// short asks that the last reply isn't all there.
func short(t *testing.T, s string) {
	t.Helper()
	if l, e := script.Replies(s); len(l) != 0 || e != api.ErrShort {
		t.Fatalf("Replies(%.99q): %v %v", s, l, e)
	}
}

// P18.2: replies' bytes are cut through at each place: between two replies they are the ones ahead, within one the last isn't all there.
func TestCutReplies(t *testing.T) {
	for _, row := range [][]api.Reply{
		{done()}, {many(1)}, {many(2)}, {many(255)}, {refused(api.ErrOver)},
		{done(), many(1), refused(api.ErrForm), many(40), done(), done(), many(255), many(3)},
	} {
		s := script.Bytes(row...)
		ends := map[int]int{0: 0}
		for k := range row {
			ends[len(script.Bytes(row[:k+1]...))] = k + 1
		}
		for n := range len(s) + 1 {
			k, whole := ends[n]
			if !whole {
				short(t, s[:n])
				continue
			}
			if l, e := script.Replies(s[:n]); !sameReplies(l, row[:k]) || e != api.OK {
				t.Fatalf("%d of %.99q: %v %v, want %v", n, s, l, e, row[:k])
			}
		}
	}
	// Less is there than is counted, also where what is there looks like replies.
	short(t, "\x00")
	short(t, "\xff")
	short(t, "\x00\xff")
	short(t, "\x00\xff"+strings.Repeat("\x00", 255*7-1))
	short(t, "\x00\x01\x00\x00\x00\x00\x00\x00")
	short(t, "\x00\x00\x00")
	short(t, strings.Repeat("\x00", 1001))
	if l, e := script.Replies("\x00\xff" + strings.Repeat("\x00", 255*7)); len(l) != 1 || len(l[0].Events) != 255 || e != api.OK {
		t.Error(l, e)
	}
}

// model is what Replies answers, by the chapter's words.
func model(s string) ([]api.Reply, api.Errno) {
	var l []api.Reply
	for s != "" {
		if len(s) < 2 || len(s) < 2+7*int(s[1]) {
			return nil, api.ErrShort
		}
		r := api.Reply{Err: api.Errno(s[0])}
		events := s[2 : 2+7*int(s[1])]
		s = s[2+len(events):]
		for x := range slices.Chunk([]byte(events), 7) {
			r.Events = append(r.Events, api.Event{Kind: int(x[0]), Id: int(x[1])*256 + int(x[2]), N: ((int(x[3])*256+int(x[4]))*256+int(x[5]))*256 + int(x[6])})
		}
		l = append(l, r)
	}
	return l, api.OK
}

// reads holds Replies to the model; what is told, put again, is the bytes that it was.
func reads(t *testing.T, s string) api.Errno {
	t.Helper()
	l, e := script.Replies(s)
	if want, err := model(s); !sameReplies(l, want) || e != err {
		t.Fatalf("Replies(%.99q): %v %v, want %v %v", s, l, e, want, err)
	}
	if again := script.Bytes(l...); e == api.OK && again != s {
		t.Fatalf("%.99q: put again: %.99q", s, again)
	}
	return e
}

// P18.2: any bytes: all texts of up to two, and drawn ones.
func TestAnyBytes(t *testing.T) {
	for a := range 256 {
		reads(t, digits(a, 1))
		for b := range 256 {
			reads(t, digits(a, 1)+digits(b, 1))
		}
	}
	d := draws(1802)
	count := map[api.Errno]int{}
	for range 20000 {
		s := make([]byte, d.below(60))
		for k := range s {
			s[k] = byte(d.of(0, 0, 1, 2, d.below(256)))
		}
		count[reads(t, string(s))]++
	}
	if count[api.OK] < 1000 || count[api.ErrShort] < 1000 {
		t.Error(count)
	}
}

// P18.2: drawn replies whose numbers fit are told as they were; of others the lowest bytes are.
func TestDrawnReplies(t *testing.T) {
	d := draws(182)
	for k := range 2000 {
		fits := k%2 == 0
		row := make([]api.Reply, d.below(5))
		for k := range row {
			row[k] = d.reply(fits)
		}
		s := script.Bytes(row...)
		puts(t, told(row...), row...)
		if l, e := script.Replies(s); fits && (!sameReplies(l, row) || e != api.OK) {
			t.Fatalf("%v: %v %v", row, l, e)
		}
		reads(t, s)
		reads(t, s[:d.below(len(s)+1)])
	}
}

// P18.2: a great many replies.
func TestManyReplies(t *testing.T) {
	row := slices.Repeat([]api.Reply{done(), refused(api.ErrFull), many(2), many(256)}, 2000)
	s := script.Bytes(row...)
	if want := strings.Repeat(told(row[:4]...), 2000); s != want {
		t.Fatal(len(s), len(want))
	}
	reads(t, s)
	short(t, s[:len(s)-1])
}
