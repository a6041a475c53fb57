package model

import (
	"auspice/api"
	"auspice/streams"
)

// byKey are the places of each stream's events, by what these have alike.
func byKey(keys []int, script []api.Event) map[api.Value][]int {
	all := map[api.Value][]int{}
	for place, e := range script {
		if key, ok := streams.Key(keys, e); ok {
			all[key] = append(all[key], place)
		}
	}
	return all
}
