package drive_test

import (
	"testing"

	"auspice/api"
	"auspice/drive"
	"auspice/image"
	"auspice/sample"
)

// P26.3: Load's errors, at the place 0, whatever the script.
func TestRunRefused(t *testing.T) {
	good := compiled(t, sample.Shop(), "PATTERN SEQ(C a) STRATEGY ANY WITHIN 5", 0, most())
	spoilt := append([]byte{}, good...)
	spoilt[len(spoilt)-1]++
	none, _ := image.Encode(api.Table{})
	for _, c := range []struct {
		image  []byte
		wanted api.Errno
	}{
		{nil, api.ErrShort},
		{good[:7], api.ErrShort},
		{make([]byte, api.MaxImage+1), api.ErrLong},
		{make([]byte, 8), api.ErrImage},
		{spoilt, api.ErrSum},
		{good[:len(good)-1], api.ErrSum},
		{none, api.ErrImage},
	} {
		for _, script := range [][]api.Event{nil, sample.Events("C 0|C 1"), {{Type: -1}}} {
			told, at, err := drive.Run(c.image, script)
			wantRefused(t, "no image", told, at, err, 0, c.wanted)
		}
	}
}

// P26.3: what Push answers, up to the first error; matches stand beside that, too; else what Close answers behind all.
func TestRun(t *testing.T) {
	b := most()
	b.Runs, b.Cells = 5, 4
	made := compiled(t, sample.Shop(), "PATTERN SEQ(C a, C+ b) | SEQ(A c, !B d) STRATEGY ANY WITHIN 9", 3, b)
	for _, c := range []struct {
		script []api.Event
		told   string
		at     int
		err    api.Errno
	}{
		{nil, "", 0, api.OK},
		{sample.Events("A 3"), "1 1: 0", 0, api.OK},
		{sample.Events("A 3|A 4"), "2 1: 0|2 1: 1", 0, api.OK},
		{sample.Events("A 3|A 13"), "1 1: 0|2 1: 1", 0, api.OK},
		{sample.Events("A 3|A 12|B 13"), "2 1: 0", 0, api.OK},
		{sample.Events("C 0|A 0|C 0"), "2 0: 0; 2|3 1: 1", 0, api.OK},
		{sample.Events("C 0|C 0|A 0|C 10"), "1 0: 0; 1|3 1: 2", 0, api.OK},
		{append(sample.Events("C 0|C 0"), api.Event{Type: 3}), "1 0: 0; 1", 2, api.ErrEvent},
		{append(sample.Events("C 0|C 0|A 0"), api.Event{Type: 2, Time: -1}), "1 0: 0; 1", 3, api.ErrEvent},
		{sample.Events("C 5|C 5|A 5|C 4|C 5"), "1 0: 0; 1", 3, api.ErrTime},
		{sample.Events("C 5|C 5|C 5|C 5"), "1 0: 0; 1", 2, api.ErrRuns},
		{sample.Events("A 5|C 5|C 6|C 14|C 16"), "2 0: 1; 2", 3, api.ErrRuns},
		{sample.Events("A 5|A 5|C 5|A 5|A 5"), "", 4, api.ErrCells},
		{sample.Events("A 5|A 5|A 5|A 5|A 15|A 16"), "4 1: 0|4 1: 1|4 1: 2|4 1: 3|6 1: 4|6 1: 5", 0, api.OK},
		{[]api.Event{{Type: -1}}, "", 0, api.ErrEvent},
	} {
		told, at, err := drive.Run(made, c.script)
		if sample.Lines(told) != c.told || at != c.at || err != c.err {
			t.Errorf("%v: %s, %d at %d, wanted %s, %d at %d", c.script, sample.Lines(told), err, at, c.told, c.err, c.at)
		}
	}
}
