package sample

import "auspice/api"

// Addresses are those of all that a list has room for.
func Addresses[T any](l []T) []any {
	all, l := []any{}, l[:cap(l)]
	for i := range l {
		all = append(all, &l[i])
	}
	return all
}

// AutoRooms are the addresses of all that an automaton has room for, conditions aside.
func AutoRooms(a api.Auto) []any {
	l := append(Addresses(a.Keys), Addresses(a.States)...)
	for _, s := range a.States[:cap(a.States)] {
		l = append(append(l, Addresses(s.Bars)...), Addresses(s.Ends)...)
		for _, end := range s.Ends[:cap(s.Ends)] {
			l = append(l, Addresses(end.Bars)...)
		}
	}
	return l
}

// AutoConditions are all lists of conditions of automata.
func AutoConditions(automata ...api.Auto) [][]api.Node {
	l := [][]api.Node{}
	bars := func(all []api.Bar) {
		for _, bar := range all[:cap(all)] {
			l = append(l, bar.Guards)
		}
	}
	for _, a := range automata {
		for _, s := range a.States[:cap(a.States)] {
			l = append(l, s.Leaves, s.Guards)
			bars(s.Bars)
			for _, end := range s.Ends[:cap(s.Ends)] {
				l = append(l, end.Closes)
				bars(end.Bars)
			}
		}
	}
	return l
}

// Once tells whether none of some addresses is met twice.
func Once(all ...[]any) bool {
	met := map[any]struct{}{}
	for _, l := range all {
		for _, x := range l {
			if _, ok := met[x]; ok {
				return false
			}
			met[x] = struct{}{}
		}
	}
	return true
}
