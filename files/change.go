package files

import (
	"clevis/api"
	"strings"
)

// Mkdir creates a directory.
func (s *Store) Mkdir(path string) api.Errno {
	place, e := s.freePlaceOf(path)
	if e != api.OK {
		return e
	}
	return s.set(place, thing{kind: api.Dir})
}

// Put creates a file, or replaces the one that is there by another one.
func (s *Store) Put(path string, b []byte) api.Errno {
	place, e := s.placeOf(path)
	if e != api.OK {
		return e
	}
	switch s.things[place].kind {
	case api.Dir:
		return api.ErrDir
	case api.Link:
		return api.ErrThere
	}
	if len(b) > api.MaxBlock {
		return api.ErrLong
	}
	e = s.set(place, thing{kind: api.Plain, id: s.puts + 1, text: string(b)})
	if e == api.OK {
		s.puts++
	}
	return e
}

// Also creates a second name for a file.
func (s *Store) Also(path, of string) api.Errno {
	place, e := s.freePlaceOf(path)
	if e != api.OK {
		return e
	}
	file, e := s.fileAt(of)
	if e != api.OK {
		return e
	}
	return s.set(place, file)
}

// Symlink creates a link, whether or not there is something to which it leads.
func (s *Store) Symlink(path, to string) api.Errno {
	place, e := s.freePlaceOf(path)
	if e != api.OK {
		return e
	}
	if _, isPath := partsOf(to); !isPath || to == "" {
		return api.ErrPath
	}
	return s.set(place, thing{kind: api.Link, text: strings.Clone(to)})
}

// Remove removes a file, a link or an empty directory.
func (s *Store) Remove(path string) api.Errno {
	place, e := s.placeOf(path)
	if e != api.OK {
		return e
	}
	switch s.things[place].kind {
	case api.NoFile:
		return api.ErrNone
	case api.Dir:
		if len(s.namesIn(place)) > 0 {
			return api.ErrDir
		}
	}
	delete(s.things, place)
	return api.OK
}

// Rename moves a file or a link to another place, whatever file or link was there.
func (s *Store) Rename(from, to string) api.Errno {
	old, e := s.placeOf(from)
	if e != api.OK {
		return e
	}
	t := s.things[old]
	if t.kind == api.NoFile {
		return api.ErrNone
	}
	place, e := s.placeOf(to)
	if e != api.OK {
		return e
	}
	if t.kind == api.Dir || s.things[place].kind == api.Dir {
		return api.ErrDir
	}
	// The old place goes first, for it may be the new one as well.
	delete(s.things, old)
	s.things[place] = t
	return api.OK
}

// set lays a thing down at a place. A store is full with one thing more than MaxFiles, since / is among them but not counted.
func (s *Store) set(place string, t thing) api.Errno {
	if s.things[place].kind == api.NoFile && len(s.things) > api.MaxFiles {
		return api.ErrFull
	}
	s.things[place] = t
	return api.OK
}
