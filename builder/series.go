package builder

import (
	"clevis/api"
)

// series has items, each once, in the order in which they came first.
type series[T comparable] struct {
	items  []T
	places map[T]int
}

// enlist adds those items that the series lacks.
func enlist[T comparable](s *series[T], items ...T) {
	if s.places == nil {
		s.places = map[T]int{}
	}
	for _, item := range items {
		if _, ok := s.places[item]; !ok {
			s.places[item] = len(s.items)
			s.items = append(s.items, item)
		}
	}
}

// firstError returns the error of the first item that has one, and goes no further.
func firstError[T any](errorOf func(T) api.Errno, items ...T) api.Errno {
	for _, item := range items {
		if e := errorOf(item); e != api.OK {
			return e
		}
	}
	return api.OK
}
