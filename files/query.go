package files

import (
	"clevis/api"
	"slices"
)

// Kind returns what is at the place of a path. / has no place, but is there.
func (s *Store) Kind(path string) api.FileKind {
	if clean, _ := Clean(path); clean == root {
		return api.Dir
	}
	place, e := s.placeOf(path)
	if e != api.OK {
		return api.NoFile
	}
	return s.things[place].kind
}

// Names returns the names in a directory, in increasing order.
func (s *Store) Names(path string) ([]string, api.Errno) {
	at, t, e := s.end(path)
	if e != api.OK {
		return nil, e
	}
	if t.kind == api.Plain {
		return nil, api.ErrFile
	}
	return s.namesIn(at), api.OK
}

// Read returns the bytes of a file.
func (s *Store) Read(path string) ([]byte, api.Errno) {
	file, e := s.fileAt(path)
	return []byte(file.text), e
}

// Find returns the identity of a file.
func (s *Store) Find(path string) (int, api.Errno) {
	file, e := s.fileAt(path)
	return file.id, e
}

// Real returns the path without links at which the way of a path ends.
func (s *Store) Real(path string) (string, api.Errno) {
	at, _, e := s.end(path)
	return at, e
}

func (s *Store) namesIn(dir string) []string {
	var names []string
	for place := range s.things {
		if place != root && above(place) == dir {
			names = append(names, lastOf(place))
		}
	}
	slices.Sort(names)
	return names
}
