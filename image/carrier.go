package image

import (
	"auspice/api"
	"auspice/wire"
)

// Numbers of a table that can be written are from least to most.
const (
	least = -1
	most  = api.MaxTime
)

// unfit is what a carrier gives up with (by panic), where there is no table that can be written.
type unfit struct{}

// carrier takes the things of a table to bytes, or from bytes.
type carrier interface {
	number(n *int)
	time(n *int64)
	truth(yes *bool)
	bits(n *uint64)
	count(things int) int // how many things a list is to have; it has so many
}

// carried tells whether a carrier didn't give up.
func carried(c carrier, t *api.Table) (whole bool) {
	defer func() {
		switch gone := recover(); gone {
		case nil, unfit{}:
		default: // a mistake of the program's own: not to be taken for the table's
			panic(gone)
		}
	}()
	table(c, t)
	return true
}

// writer changes nothing of what it writes.
type writer struct {
	bytes []byte
}

func (w *writer) number(n *int) {
	w.write(int64(*n))
}

func (w *writer) time(n *int64) {
	w.write(*n)
}

func (w *writer) truth(yes *bool) {
	if *yes {
		w.write(1)
	} else {
		w.write(0)
	}
}

func (w *writer) bits(n *uint64) {
	if !w.full() {
		w.bytes = append(w.bytes, wire.Uint(*n)...)
	}
}

func (w *writer) count(things int) int {
	if things > api.MaxCode {
		panic(unfit{})
	}
	w.write(int64(things))
	return things
}

func (w *writer) write(n int64) {
	if n < least || n > most {
		panic(unfit{})
	}
	if !w.full() {
		w.bytes = append(w.bytes, wire.Int(n)...)
	}
}

// full tells whether there is too much already: what is behind it is only looked at, since lists that share their memory may be far longer than they are.
func (w *writer) full() bool {
	return len(w.bytes) > api.MaxImage
}

// reader reads no number but such as writer writes.
type reader struct {
	numbers *wire.Reader
}

func (r *reader) number(n *int) {
	*n = int(r.read(least, most))
}

func (r *reader) time(n *int64) {
	*n = r.read(least, most)
}

func (r *reader) truth(yes *bool) {
	*yes = r.read(0, 1) == 1
}

func (r *reader) bits(n *uint64) {
	x, ok := r.numbers.Uint()
	if !ok {
		panic(unfit{})
	}
	*n = x
}

func (r *reader) count(int) int {
	return int(r.read(0, api.MaxCode))
}

// read is a number that must be from one to another.
func (r *reader) read(from, to int64) int64 {
	n, ok := r.numbers.Upto(from, to)
	if !ok {
		panic(unfit{})
	}
	return n
}
