package book

import "stockroom/api"

// reader takes numbers of four bytes each, the low byte first, off a text's beginning. Once a number is missing or out of its bounds the text is bad for good, so that one look at the end is enough.
type reader struct {
	left string
	bad  bool
}

// next takes any number.
func (r *reader) next() int {
	if len(r.left) < 4 {
		r.left, r.bad = "", true
		return 0
	}
	t := r.left[:4]
	r.left = r.left[4:]
	return int(t[0]) | int(t[1])<<8 | int(t[2])<<16 | int(t[3])<<24
}

// within takes a number from low to high. Any other is told as 0, which may still be used as an index.
func (r *reader) within(low, high int) int {
	n := r.next()
	if n < low || n > high {
		r.bad = true
		return 0
	}
	return n
}

// request takes the six numbers of a request, whatever they are.
func (r *reader) request() api.Request {
	return api.Request{ID: r.next(), Kind: r.next(), Cell: r.next(), Hold: r.next(), Count: r.next(), Time: r.next()}
}

// ended tells whether nothing was bad and nothing is left.
func (r *reader) ended() bool {
	return !r.bad && r.left == ""
}
