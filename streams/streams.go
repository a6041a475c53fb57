// Package streams tells which events are in one stream. It is no layer: the layers that go through events by streams are built on it.
package streams

import (
	"auspice/api"
	"auspice/value"
)

// Key is what the events of a stream have alike: without keys nothing. It is false of an event that is in no stream.
func Key(keys []int, e api.Event) (api.Value, bool) {
	if len(keys) == 0 {
		return api.Value{}, true
	}
	if e.Type < 0 || e.Type >= len(keys) {
		return api.Value{}, false
	}
	attr := keys[e.Type]
	if attr < 0 || attr >= len(e.Attrs) {
		return api.Value{}, false
	}
	return value.Clean(e.Attrs[attr]), true
}
