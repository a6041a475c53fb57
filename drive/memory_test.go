package drive_test

import (
	"bytes"
	"math/rand/v2"
	"slices"
	"testing"

	"auspice/api"
	"auspice/drive"
	"auspice/sample"
)

// roomySchema is a schema with spare room in all its lists, in which something stands.
func roomySchema(s api.Schema) api.Schema {
	s.Syms = append(slices.Clone(s.Syms), "spare")[:len(s.Syms)]
	s.Types = append(slices.Clone(s.Types), api.Type{Name: "spare"})[:len(s.Types)]
	for i := range s.Types {
		l := s.Types[i].Fields
		s.Types[i].Fields = append(slices.Clone(l), api.Field{Name: "spare"})[:len(l)]
	}
	return s
}

// spareSchema is all that a schema has, with its spare room.
func spareSchema(s api.Schema) string {
	text := dump(s.Syms[:cap(s.Syms)]) + dump(s.Types[:cap(s.Types)])
	for _, t := range s.Types {
		text += dump(t.Fields[:cap(t.Fields)])
	}
	return text
}

// spareScript is all that events have, with their spare room.
func spareScript(l []api.Event) string {
	text := dump(l[:cap(l)])
	for _, e := range l {
		text += dump(e.Attrs[:cap(e.Attrs)])
	}
	return text
}

// matchRooms are the addresses of all that matches have room for.
func matchRooms(l []api.Match) []any {
	rooms := sample.Addresses(l)
	for _, m := range l {
		rooms = append(rooms, sample.Addresses(m.Parts)...)
		for _, part := range m.Parts {
			rooms = append(rooms, sample.Addresses(part)...)
		}
	}
	return rooms
}

// The rules on memory, and on what a call's answer hangs: nothing that is handed in is changed, or kept; answers share none with one another, nor with what is handed in; handed the same, each call answers the same.
func TestMemory(t *testing.T) {
	r := rand.New(rand.NewPCG(26, 9))
	told := 0
	for range 600 {
		w := newWorld(r)
		s, text, level := roomySchema(w.schema), w.query(), r.IntN(4)
		if _, _, err := planned(s, text); err != api.OK {
			continue
		}
		before := spareSchema(s)
		one, other := built(t, s, text, level), built(t, s, text, level)
		if dump(one) != dump(other) || !sample.Once(sample.AutoRooms(one), sample.AutoRooms(other)) || !sample.Apart(sample.AutoConditions(one, other), nil) {
			t.Fatalf("%s: automata share memory", text)
		}
		made, again := compiled(t, s, text, level, most()), compiled(t, s, text, level, most())
		if !bytes.Equal(made, again) || &made[0] == &again[0] {
			t.Fatalf("%s: another image, or the same memory", text)
		}
		clear(again[:cap(again)])
		made = append(made, 7, 7, 7)[:len(made)]
		script := append(w.script(10), api.Event{Type: 9})
		script = script[:len(script)-1]
		lines := append(linesOf(s, script), "spare")
		lines = lines[:len(lines)-1]
		events, bytesBefore, linesBefore := spareScript(script), dump(made[:cap(made)]), dump(lines[:cap(lines)])
		first, _, _ := drive.Run(made, script)
		second, _, _ := drive.Run(made, script)
		if !sample.Once(matchRooms(first), matchRooms(second)) || sample.Lines(first) != sample.Lines(second) {
			t.Fatalf("%s over %v: matches share memory, or are others", text, script)
		}
		session, next := drive.Session(s, text, level, most(), lines), drive.Session(s, text, level, most(), lines)
		clear(session[:cap(session)])
		wantLines(t, text, next, matchLines(first, 0, api.OK))
		if spareSchema(s) != before || spareScript(script) != events || dump(made[:cap(made)]) != bytesBefore || dump(lines[:cap(lines)]) != linesBefore {
			t.Fatalf("%s: something is changed", text)
		}
		told += len(first)
	}
	if told < 500 {
		t.Errorf("%d matches", told)
	}
}
