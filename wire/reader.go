package wire

import "bytes"

// mostBytes is how many bytes a number has at most.
const mostBytes = 10

// Reader reads numbers.
type Reader struct {
	left []byte
}

func Open(b []byte) *Reader {
	return &Reader{left: bytes.Clone(b)}
}

func (r *Reader) Uint() (uint64, bool) {
	return read(r, (*Reader).number)
}

func (r *Reader) Int() (int64, bool) {
	return read(r, (*Reader).signed)
}

func (r *Reader) Upto(least, most int64) (int64, bool) {
	return read(r, func(ahead *Reader) int64 {
		n := ahead.signed()
		if n < least || n > most {
			panic(none{})
		}
		return n
	})
}

func (r *Reader) Left() int {
	if r == nil {
		return 0
	}
	return len(r.left)
}

// none is what reading gives up with (by panic) where no number stands, or not one that is asked for.
type none struct{}

// read is what next reads, and true. Next is handed a reader of its own, so that r stays where it is if next gives up.
func read[N any](r *Reader, next func(ahead *Reader) N) (n N, ok bool) {
	if r == nil {
		return n, false
	}
	defer func() {
		switch gone := recover(); gone {
		case nil, none{}:
		default: // a mistake of the program's own: not to be taken for the bytes'
			panic(gone)
		}
	}()
	ahead := *r
	n = next(&ahead)
	*r = ahead
	return n, true
}

func (r *Reader) signed() int64 {
	n := r.number()
	if n%2 == 1 {
		return ^int64(n / 2)
	}
	return int64(n / 2)
}

func (r *Reader) number() uint64 {
	n := uint64(0)
	for at := range mostBytes {
		c := r.next()
		digit := uint64(c % base)
		part := digit << (7 * at)
		switch {
		case part>>(7*at) != digit: // the number is too great
			panic(none{})
		case c == 0 && at > 0: // fewer bytes would be enough
			panic(none{})
		}
		n |= part
		if c < base {
			return n
		}
	}
	panic(none{})
}

func (r *Reader) next() byte {
	if len(r.left) == 0 {
		panic(none{})
	}
	c := r.left[0]
	r.left = r.left[1:]
	return c
}
