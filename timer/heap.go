package timer

// thing is what lies in a heap: of two different ones, one is ahead of the other.
type thing[T any] interface {
	ahead(of T) bool
}

// heap has things, none ahead of the one above it; above the one at i stands the one at (i-1)/2.
type heap[T thing[T]] struct {
	things []T
}

// first is the thing that is ahead of all others.
func (h *heap[T]) first() (T, bool) {
	if len(h.things) == 0 {
		var none T
		return none, false
	}
	return h.things[0], true
}

// put lays x into the heap.
func (h *heap[T]) put(x T) {
	h.things = append(h.things, x)
	h.rise(len(h.things) - 1)
}

// take takes x out of the heap. Where each thing stands isn't kept: a timer has few, and asks mostly for the first one.
func (h *heap[T]) take(x T) {
	for i, y := range h.things {
		if !x.ahead(y) && !y.ahead(x) {
			h.cut(i)
			return
		}
	}
}

// cut fills the place i with the last thing, which may come from beside it, and so belong higher or deeper.
func (h *heap[T]) cut(i int) {
	last := len(h.things) - 1
	h.things[i] = h.things[last]
	h.things = h.things[:last]
	if i < last {
		h.rise(i)
		h.sink(i)
	}
}

func (h *heap[T]) rise(i int) {
	for i > 0 && h.things[i].ahead(h.things[(i-1)/2]) {
		h.swap(i, (i-1)/2)
		i = (i - 1) / 2
	}
}

func (h *heap[T]) sink(i int) {
	for 2*i+1 < len(h.things) {
		below := 2*i + 1
		if below+1 < len(h.things) && h.things[below+1].ahead(h.things[below]) {
			below++
		}
		if !h.things[below].ahead(h.things[i]) {
			return
		}
		h.swap(i, below)
		i = below
	}
}

func (h *heap[T]) swap(i, k int) {
	h.things[i], h.things[k] = h.things[k], h.things[i]
}
