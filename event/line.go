package event

import (
	"strconv"
	"strings"

	"auspice/api"
	"auspice/real"
	"auspice/schema"
)

// kind is a value's kind; the kinds are counted up from package api's first one on, in its order.
type kind int

const (
	intKind kind = api.Int + iota
	boolKind
	symKind
	realKind
	kindsEnd
)

func (k kind) known() bool {
	return intKind <= k && k < kindsEnd
}

const (
	blank   = " "
	symMark = "'"
)

func Line(s api.Schema, e api.Event) string {
	if !Valid(s, e) {
		return ""
	}
	words := []string{s.Types[e.Type].Name, strconv.FormatInt(e.Time, 10)}
	for _, v := range e.Attrs {
		words = append(words, word(s, v))
	}
	return strings.Join(words, blank)
}

// word writes a value of a valid event.
func word(s api.Schema, v api.Value) string {
	switch kind(v.Kind) {
	case intKind:
		return strconv.FormatInt(int64(v.Bits), 10)
	case boolKind:
		return strconv.FormatBool(v.Bits == 1)
	case symKind:
		return symMark + s.Syms[v.Bits]
	}
	return real.Text(v.Bits)
}

func Parse(s api.Schema, line string) (api.Event, bool) {
	e := guess(s, line)
	// What is guessed is held against the line: so there is just one line for each event, whatever else the readers of numbers take.
	if line == "" || Line(s, e) != line {
		return api.Event{}, false
	}
	return e, true
}

// guess is the one event whose line this may be; where a part of the line can't be read, it is an event with another line.
func guess(s api.Schema, line string) api.Event {
	name, rest, _ := strings.Cut(line, blank)
	e := api.Event{Type: schema.Type(s, name)}
	if e.Type < 0 {
		return e
	}
	time, rest, _ := strings.Cut(rest, blank)
	e.Time, _ = strconv.ParseInt(time, 10, 64)
	for _, f := range s.Types[e.Type].Fields {
		var w string
		w, rest, _ = strings.Cut(rest, blank)
		e.Attrs = append(e.Attrs, read(s, kind(f.Kind), w))
	}
	return e
}

// read is the value of this kind that a word may tell; a word that tells none is another one's, or poison.
func read(s api.Schema, k kind, w string) api.Value {
	v := api.Value{Kind: int(k)}
	switch k {
	case intKind:
		n, _ := strconv.ParseInt(w, 10, 64)
		v.Bits = uint64(n)
	case boolKind:
		if w == "true" {
			v.Bits = 1
		}
	case symKind:
		v.Bits = uint64(schema.Sym(s, strings.TrimPrefix(w, symMark)))
	case realKind:
		v.Bits, _ = real.Parse(w)
	}
	return v
}
