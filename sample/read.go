package sample

import (
	"strings"

	"auspice/api"
	"auspice/event"
	"auspice/match"
	"auspice/plan"
	"auspice/query"
)

// Texts that these calls are handed are written by tests: one that can't be read is a mistake there, and ends the test by panic.

// Planned is the plan of a query by Shop; false: it has none, being too long.
func Planned(text string) (api.Plan, bool) {
	q, _, err := query.Parse(text)
	if err == api.ErrLong {
		return api.Plan{}, false
	}
	if err != api.OK {
		panic("no query: " + text)
	}
	p, _, err := plan.Make(Shop(), q)
	if err != api.OK {
		panic("no plan: " + text)
	}
	return p, true
}

// Events are such of Shop, a stroke between each two, told shortly: by their types, their times, and, but of C, ann or bob and x, both perhaps left out.
func Events(lines string) []api.Event {
	l := []api.Event{}
	for line := range strings.SplitSeq(lines, "|") {
		if line != "" {
			l = append(l, ofWords(strings.Fields(line)))
		}
	}
	return l
}

func ofWords(words []string) api.Event {
	if words[0] != "C" {
		words = append(words, []string{"ann", "0"}[min(2, len(words)-2):]...)
		words[2] = "'" + words[2]
		words = append(words, "#0000000000000000", "true")
	}
	line := strings.Join(words, " ")
	e, ok := event.Parse(Shop(), line)
	if !ok {
		panic("no event: " + line)
	}
	return e
}

// Lines are matches as lines, a stroke between each two.
func Lines(l []api.Match) string {
	lines := []string{}
	for _, m := range l {
		lines = append(lines, match.Line(m))
	}
	return strings.Join(lines, "|")
}
