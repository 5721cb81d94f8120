package script

import (
	"strings"

	"ensemble/api"
)

const (
	// front is how many bytes a reply has ahead of its events: its Err, and how many these are.
	front = 2
	// each is how many bytes an event has: its Kind, its Id (2), and N (4).
	each = 7
	// most is how many events one byte can count; a reply's others aren't told.
	most = 255
)

// Bytes is the replies' bytes.
func Bytes(l ...api.Reply) string {
	var text strings.Builder
	put(text.WriteByte, l...)
	return text.String()
}

// Replies is the replies whose bytes these are; ErrShort, if the last one isn't all there.
func Replies(s string) ([]api.Reply, api.Errno) {
	var l []api.Reply
	for len(s) > 0 {
		r, left, whole := take(s)
		if !whole {
			return nil, api.ErrShort
		}
		l, s = append(l, r), left
	}
	return l, api.OK
}

// put writes replies' bytes.
func put(write func(byte) error, l ...api.Reply) {
	for _, r := range l {
		events := r.Events[:min(len(r.Events), most)]
		putNumber(write, int(r.Err), 1)
		putNumber(write, len(events), 1)
		for _, x := range events {
			putNumber(write, x.Kind, 1)
			putNumber(write, x.Id, 2)
			putNumber(write, x.N, 4)
		}
	}
}

// putNumber writes the lowest bytes of a number, so many, the highest first.
func putNumber(write func(byte) error, n, width int) {
	for k := range width {
		write(byte(n >> (8 * (width - 1 - k))))
	}
}

// take is the reply at the front, what is left behind it, and whether it is all there.
func take(s string) (api.Reply, string, bool) {
	if len(s) < front {
		return api.Reply{}, "", false
	}
	events := int(s[1])
	size := front + each*events
	if len(s) < size {
		return api.Reply{}, "", false
	}
	r := api.Reply{Err: api.Errno(s[0])}
	for k := range events {
		x := s[front+each*k:]
		r.Events = append(r.Events, api.Event{Kind: number(x[:1]), Id: number(x[1:3]), N: number(x[3:each])})
	}
	return r, s[size:], true
}

// number is the one that bytes are, the highest first.
func number(s string) int {
	n := 0
	for k := range len(s) {
		n = n<<8 | int(s[k])
	}
	return n
}
