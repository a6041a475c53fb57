package match_test

import (
	"math"
	"math/rand/v2"
	"regexp"
	"slices"
	"strconv"
	"strings"
	"testing"

	"auspice/api"
	"auspice/match"
)

var lines = []struct {
	m    api.Match
	line string
}{
	{of(2, []int{0}, []int{1, 2}), "2 0: 0; 1 2"},
	{of(0, []int{0}), "0 0: 0"},
	{of(1, []int{0}), "1 0: 0"},
	{api.Match{Step: 12, Branch: 3, Parts: [][]int{{9, 10}, {11}, {12}}}, "12 3: 9 10; 11; 12"},
	{api.Match{Step: 100, Branch: math.MaxInt, Parts: [][]int{{0, 10, 99}}}, "100 9223372036854775807: 0 10 99"},
	{api.Match{Step: math.MaxInt, Parts: [][]int{{0}, {math.MaxInt - 1}}}, "9223372036854775807 0: 0; 9223372036854775806"},
	{api.Match{Step: math.MaxInt - 1, Parts: [][]int{{math.MaxInt - 1}}}, "9223372036854775806 0: 9223372036854775806"},
}

// P10.3
func TestLine(t *testing.T) {
	for _, c := range lines {
		if got := match.Line(c.m); got != c.line {
			t.Errorf("the line of %v: %q, wanted %q", c.m, got, c.line)
		}
		if got, ok := match.Parse(c.line); !ok || !slices.Equal(flat(got), flat(c.m)) {
			t.Errorf("Parse(%q): %v, %v", c.line, got, ok)
		}
	}
}

// P10.3: of a match that isn't Good for any n, no line. A place of the greatest int is below no n.
func TestNoLine(t *testing.T) {
	for _, m := range []api.Match{
		{}, of(0, nil), of(0, []int{}), of(0, []int{0}, nil), of(0, []int{1}), of(1, []int{1, 0}), of(1, []int{0, 0}), of(1, []int{0}, []int{0}), of(0, []int{-1}),
		of(-1, []int{0}), of(math.MaxInt, []int{math.MaxInt}), of(math.MaxInt, []int{0, math.MaxInt}), {Branch: -1, Parts: [][]int{{0}}}, of(math.MinInt, []int{math.MinInt}),
	} {
		if got := match.Line(m); got != "" {
			t.Errorf("the line of %v: %q", m, got)
		}
	}
	r := rand.New(rand.NewPCG(10, 3))
	for range 60000 {
		m := random(r)
		if got := match.Line(m) != ""; got != good(m, math.MaxInt) {
			t.Fatalf("%v has a line: %v", m, got)
		}
	}
}

// P10.3: texts that are no lines.
func TestNoMatch(t *testing.T) {
	for _, s := range []string{
		"", " ", ":", ": ", "2", "2 0", "2 0:", "2 0: ", "2 0:0", "2 0: 0;", "2 0: 0; ", "2 0: 0;1", "2 0: 0 ; 1", "2 0: ; 0", "2 0:; 0", "2 0:  0", "2 0: 0 ", "2  0: 0", " 2 0: 0", "2 0 : 0", "2 0: 0  1", "2 0: 0\t1", "2\t0: 0", "2 0: 0\n", "2 0: 0; 1 2;", "2 0: 0;; 1",
		"02 0: 0", "2 00: 0", "2 0: 00", "2 0: 01", "+2 0: 0", "2 +0: 0", "2 0: +0", "2 0: -0", "2 -0: 0", "-0 0: 0", "-1 0: 0", "0 -1: 0", "0 0: -1", "2 0: 0x1", "2 0: 1_0", "2 0: 0.", "2 0: ٣", "2 0: a", "2 0 0: 0", "2: 0", "2 0: 0: 1", "2 0:: 0",
		"2 0: 0; 1 1", "1 0: 0; 2", "2 0: 1 0", "2 0: 1; 0", "2 0: 1; 1", "0 0: 1", "2 0, 0", "2 0: 0, 1", "\xff", "2 0: 0\x00",
		"9223372036854775808 0: 0", "2 9223372036854775808: 0", "9223372036854775807 0: 9223372036854775807", "9223372036854775807 0: 9223372036854775808", "18446744073709551618 0: 0",
	} {
		if got, ok := match.Parse(s); ok || got.Step != 0 || got.Branch != 0 || got.Parts != nil {
			t.Errorf("Parse(%q): %v, %v", s, got, ok)
		}
	}
}

// ofLine reads a line by its pattern.
func ofLine(s string) (api.Match, bool) {
	const number = `(?:0|[1-9][0-9]*)`
	const places = `(?: ` + number + `)+`
	found := regexp.MustCompile(`^(` + number + `) (` + number + `):(` + places + `(?:;` + places + `)*)$`).FindStringSubmatch(s)
	if found == nil {
		return api.Match{}, false
	}
	bad := false
	read := func(s string) int {
		n, err := strconv.Atoi(s)
		bad = bad || err != nil
		return n
	}
	m := api.Match{Step: read(found[1]), Branch: read(found[2])}
	for part := range strings.SplitSeq(found[3], ";") {
		l := []int{}
		for word := range strings.SplitSeq(part[1:], " ") {
			l = append(l, read(word))
		}
		m.Parts = append(m.Parts, l)
	}
	return m, !bad && good(m, math.MaxInt)
}

// rising is a match that is Good.
func rising(r *rand.Rand) api.Match {
	m := api.Match{Branch: r.IntN(12)}
	place := r.IntN(3)
	for range 1 + r.IntN(3) {
		l := []int{}
		for range 1 + r.IntN(3) {
			l = append(l, place)
			m.Step = place + r.IntN(2)*r.IntN(20)
			place += 1 + r.IntN(4)
		}
		m.Parts = append(m.Parts, l)
	}
	return m
}

// P10.3: lines, and lines that are changed at some bytes, against their pattern.
func TestParse(t *testing.T) {
	r := rand.New(rand.NewPCG(10, 4))
	const signs = "  ::;;0123456789-+x\t"
	told := 0
	for range 60000 {
		m := rising(r)
		s := match.Line(m)
		if got, ok := match.Parse(s); !ok || !slices.Equal(flat(got), flat(m)) {
			t.Fatalf("Parse(%q): %v, %v", s, got, ok)
		}
		for range 1 + r.IntN(2) {
			at, sign := r.IntN(len(s)), string(signs[r.IntN(len(signs))])
			s = s[:at] + sign[:r.IntN(2)] + s[at+r.IntN(2):]
			if s == "" {
				break
			}
		}
		got, ok := match.Parse(s)
		wanted, is := ofLine(s)
		if ok != is || is && !slices.Equal(flat(got), flat(wanted)) || !is && !slices.Equal(flat(got), flat(api.Match{})) {
			t.Fatalf("Parse(%q): %v, %v, wanted %v, %v", s, got, ok, wanted, is)
		}
		if is {
			told++
		}
	}
	if told < 5000 {
		t.Errorf("%d changed lines are lines", told)
	}
}

// The rule on memory: an answer's lists are new, and share nothing.
func TestParseMemory(t *testing.T) {
	const line = "9 0: 0 1; 2 3; 4 5"
	first, _ := match.Parse(line)
	second, _ := match.Parse(line)
	for _, l := range first.Parts[:2] {
		l = l[:cap(l)]
		for i := range l {
			l[i] = -1
		}
	}
	if !slices.Equal(first.Parts[2], []int{4, 5}) {
		t.Errorf("lists of one answer are shared: %v", first)
	}
	clear(first.Parts[:cap(first.Parts)])
	if match.Line(second) != line {
		t.Errorf("lists of two answers are shared: %v", second)
	}
	m := of(5, []int{0, 1}, []int{2})
	m.Parts[1] = m.Parts[1][:1:1]
	match.Line(m)
	match.Good(m, 9)
	match.Order(m, m)
	if !slices.Equal(flat(m), flat(of(5, []int{0, 1}, []int{2}))) {
		t.Error("what was handed in is changed")
	}
}

// P1: texts that are as long as can be.
func TestLongTexts(t *testing.T) {
	for _, s := range []string{strings.Repeat("9", 100000), strings.Repeat("1 ", 100000), "1 1:" + strings.Repeat(";", 100000), "1 1: " + strings.Repeat("0 ", 100000), strings.Repeat(":", 100000)} {
		if _, ok := match.Parse(s); ok {
			t.Errorf("%.20q.. is a match", s)
		}
	}
	m := of(200000, nil)
	for i := range 100000 {
		m.Parts[0] = append(m.Parts[0], 2*i)
	}
	if got, ok := match.Parse(match.Line(m)); !ok || !match.Same(got, m) {
		t.Error("a long match isn't read back")
	}
}
