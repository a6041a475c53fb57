package lex_test

import (
	"math/rand/v2"
	"regexp"
	"slices"
	"strconv"
	"strings"
	"testing"

	"auspice/api"
	"auspice/lex"
)

// The chapter's table, as patterns.
var (
	blankPattern  = regexp.MustCompile("^[ \t\n\r]*")
	wordPattern   = regexp.MustCompile("^[A-Za-z][A-Za-z0-9_]*")
	numberPattern = regexp.MustCompile(`^[0-9]+(\.[0-9]+)?`)
	soundPattern  = regexp.MustCompile(`^(0|[1-9][0-9]*)(\.[0-9]+)?$`)
	symbolPattern = regexp.MustCompile("^'[A-Za-z][A-Za-z0-9_]*'")
	signPattern   = regexp.MustCompile(`^(!=|<=|>=|[(),.+\-*/%=<>!|])`)
)

// wantedScan is what the chapter says of a text, by patterns.
func wantedScan(text string) ([]api.Token, int, api.Errno) {
	l := []api.Token{}
	at := len(blankPattern.FindString(text))
	for at < len(text) {
		x, length := wantedToken(text[at:])
		if length == 0 {
			return nil, at, api.ErrToken
		}
		x.At = at
		l = append(l, x)
		at += length
		at += len(blankPattern.FindString(text[at:]))
	}
	return append(l, end(len(text))), 0, api.OK
}

func wantedToken(text string) (api.Token, int) {
	isWord := func(s string) bool { return slices.Contains(strings.Fields(words), s) }
	if s := wordPattern.FindString(text); s != "" {
		switch {
		case isWord(s):
			return word(s, 0), len(s)
		case len(s) <= api.MaxName:
			return name(s, 0), len(s)
		}
		return api.Token{}, 0
	}
	if s := numberPattern.FindString(text); s != "" {
		return wantedNumber(s)
	}
	if s := symbolPattern.FindString(text); s != "" {
		inner := strings.Trim(s, "'")
		if isWord(inner) || len(inner) > api.MaxName {
			return api.Token{}, 0
		}
		return symbol(inner, 0), len(s)
	}
	s := signPattern.FindString(text)
	return sign(s, 0), len(s)
}

func wantedNumber(s string) (api.Token, int) {
	before, behind, real := strings.Cut(s, ".")
	n, err := strconv.ParseUint(before+behind, 10, 63)
	switch {
	case !soundPattern.MatchString(s) || err != nil || real && len(before+behind) > 15:
		return api.Token{}, 0
	case real:
		return decimal(int64(n), len(behind), 0), len(s)
	}
	return whole(int64(n), 0), len(s)
}

// holdScan holds Scan against the patterns, and has what it tells spelt and read again.
func holdScan(t *testing.T, text string) {
	t.Helper()
	l, at, err := lex.Scan(text)
	wantedList, wantedAt, wanted := wantedScan(text)
	if !slices.Equal(l, wantedList) || at != wantedAt || err != wanted {
		t.Fatalf("Scan(%q): %v, %d, %d, wanted %v, %d, %d", text, l, at, err, wantedList, wantedAt, wanted)
	}
	if err != api.OK {
		return
	}
	for _, between := range []string{" ", "\t", "\n", "\r", " \n "} {
		if got := spelt(l, between); len(got) <= api.MaxText {
			wantAlike(t, got, l)
		}
	}
}

// spelt is tokens as text again.
func spelt(l []api.Token, between string) string {
	parts := []string{}
	for _, x := range l {
		parts = append(parts, lex.Spell(x))
	}
	return strings.Join(parts, between)
}

// wantAlike: a text has these tokens, places aside.
func wantAlike(t *testing.T, text string, wanted []api.Token) {
	t.Helper()
	got, _, err := lex.Scan(text)
	if err != api.OK || !slices.EqualFunc(got, wanted, func(a, b api.Token) bool {
		a.At, b.At = 0, 0
		return a == b
	}) {
		t.Fatalf("spelt %q: %v, %d, wanted %v", text, got, err, wanted)
	}
}

// P5.1, P5.2: all short texts of bytes that matter to one another.
func TestScanShortTexts(t *testing.T) {
	bytes := "aR01.'=<!- \n_|~\xff"
	texts := []string{""}
	for range 4 {
		longer := []string{}
		for _, s := range texts {
			for i := range len(bytes) {
				longer = append(longer, s+bytes[i:i+1])
			}
		}
		texts = longer
		for _, s := range texts {
			holdScan(t, s)
		}
	}
}

// P5.1, P5.2: long texts of pieces that are tokens, nearly tokens, and bytes.
func TestScanPieces(t *testing.T) {
	pieces := append(strings.Fields(words+" "+signs), " ", "\t", "\n", "\r", " ", " ", "a", "b_9", "Z", "0", "7", "12", "1.5", "0.25", "123456789", "'", "'ann'", "''", "_", ".", ".", "xxxxxxxxxxxx", "99999999999")
	r := rand.New(rand.NewPCG(5, 1))
	for range 20000 {
		s := ""
		for range r.IntN(30) {
			s += pieces[r.IntN(len(pieces))]
			if r.IntN(2) == 0 {
				s += " "
			}
		}
		holdScan(t, s)
	}
	for range 20000 {
		b := make([]byte, r.IntN(6))
		for i := range b {
			b[i] = byte(r.IntN(256))
		}
		holdScan(t, "a "+string(b))
	}
}
