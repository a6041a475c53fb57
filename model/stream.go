package model

import (
	"auspice/api"
	"auspice/value"
)

// keyOf is what the events of a stream have alike: without keys nothing. It is false of an event that is in no stream.
func keyOf(keys []int, e api.Event) (api.Value, bool) {
	if len(keys) == 0 {
		return api.Value{}, true
	}
	if e.Type < 0 || e.Type >= len(keys) {
		return api.Value{}, false
	}
	attr := keys[e.Type]
	if attr < 0 || attr >= len(e.Attrs) {
		return api.Value{}, false
	}
	return value.Clean(e.Attrs[attr]), true
}

// streams are the places of each stream's events, by what these have alike.
func streams(keys []int, script []api.Event) map[api.Value][]int {
	all := map[api.Value][]int{}
	for place, e := range script {
		if key, ok := keyOf(keys, e); ok {
			all[key] = append(all[key], place)
		}
	}
	return all
}
