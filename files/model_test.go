package files_test

import (
	"slices"
	"strings"
	"testing"

	"clevis/api"
	"clevis/files"
)

// model is a store built otherwise: a tree of directories, in which a file at several places is one node.
type model struct {
	top    *node
	places int
	last   int
}

type node struct {
	kind  api.FileKind
	up    *node // of a directory
	path  string
	names map[string]*node
	id    int
	text  string
}

func newModel() *model {
	top := &node{kind: api.Dir, names: map[string]*node{}}
	top.up = top
	return &model{top: top}
}

func modelParts(path string) []string {
	return slices.DeleteFunc(strings.Split(path, "/"), func(part string) bool { return part == "" || part == "." })
}

// follow goes on from a directory, and says whether more comes behind these parts.
func (m *model) follow(at *node, parts []string, links *int, more bool) (*node, string, api.Errno) {
	real := at.path
	for i, part := range parts {
		rest := more || i+1 < len(parts)
		if part == ".." {
			at, real = at.up, at.up.path
			continue
		}
		next := at.names[part]
		if next == nil {
			return nil, "", api.ErrNone
		}
		nextReal := at.path + "/" + part
		if next.kind == api.Link {
			*links++
			if *links > 8 {
				return nil, "", api.ErrLoop
			}
			start := at
			if next.text[0] == '/' {
				start = m.top
			}
			var e api.Errno
			next, nextReal, e = m.follow(start, modelParts(next.text), links, rest)
			if e != api.OK {
				return nil, "", e
			}
		}
		if next.kind == api.Plain && rest {
			return nil, "", api.ErrFile
		}
		at, real = next, nextReal
	}
	return at, real, api.OK
}

func (m *model) end(path string) (*node, string, api.Errno) {
	if path == "" || path[0] != '/' {
		return nil, "", api.ErrPath
	}
	links := 0
	return m.follow(m.top, modelParts(path), &links, false)
}

func (m *model) place(path string) (*node, string, api.Errno) {
	parts := modelParts(path)
	if path == "" || path[0] != '/' || len(parts) == 0 || parts[len(parts)-1] == ".." {
		return nil, "", api.ErrPath
	}
	links := 0
	last := parts[len(parts)-1]
	dir, _, e := m.follow(m.top, parts[:len(parts)-1], &links, false)
	if e == api.OK && dir.kind == api.Plain {
		e = api.ErrFile
	}
	return dir, last, e
}

func (m *model) create(path string, n *node, e api.Errno) api.Errno {
	dir, name, bad := m.place(path)
	switch {
	case bad != api.OK:
		return bad
	case dir.names[name] != nil:
		return api.ErrThere
	case e != api.OK:
		return e
	case m.places == 500:
		return api.ErrFull
	}
	if n.kind == api.Dir {
		n.up, n.path, n.names = dir, dir.path+"/"+name, map[string]*node{}
	}
	dir.names[name] = n
	m.places++
	return api.OK
}

func (m *model) put(path, text string) api.Errno {
	dir, name, e := m.place(path)
	if e == api.OK && dir.names[name] != nil {
		switch dir.names[name].kind {
		case api.Dir:
			return api.ErrDir
		case api.Plain:
			m.last++
			dir.names[name] = &node{kind: api.Plain, id: m.last, text: text}
			return api.OK
		}
	}
	if e := m.create(path, &node{kind: api.Plain, id: m.last + 1, text: text}, api.OK); e != api.OK {
		return e
	}
	m.last++
	return api.OK
}

func (m *model) also(path, of string) api.Errno {
	n, _, e := m.end(of)
	if e == api.OK && n.kind == api.Dir {
		e = api.ErrDir
	}
	return m.create(path, n, e)
}

func (m *model) symlink(path, to string) api.Errno {
	e := api.OK
	if to == "" {
		e = api.ErrPath
	}
	return m.create(path, &node{kind: api.Link, text: to}, e)
}

func (m *model) remove(path string) api.Errno {
	dir, name, e := m.place(path)
	if e != api.OK {
		return e
	}
	n := dir.names[name]
	if n == nil {
		return api.ErrNone
	}
	if len(n.names) > 0 {
		return api.ErrDir
	}
	delete(dir.names, name)
	m.places--
	return api.OK
}

func (m *model) rename(from, to string) api.Errno {
	dir, name, e := m.place(from)
	if e != api.OK {
		return e
	}
	n := dir.names[name]
	if n == nil {
		return api.ErrNone
	}
	dir2, name2, e := m.place(to)
	if e != api.OK {
		return e
	}
	other := dir2.names[name2]
	if n.kind == api.Dir || other != nil && other.kind == api.Dir {
		return api.ErrDir
	}
	if dir == dir2 && name == name2 {
		return api.OK
	}
	if other != nil {
		m.places--
	}
	delete(dir.names, name)
	dir2.names[name2] = n
	return api.OK
}

// compare asks store and model everything about a path.
func (m *model) compare(t *testing.T, s *files.Store, path string) {
	t.Helper()
	n, real, e := m.end(path)
	if e == api.OK && real == "" {
		real = "/"
	}
	if got, ge := s.Real(path); got != real || ge != e {
		t.Fatalf("Real(%q): %q, %d; want %q, %d", path, got, ge, real, e)
	}
	namesError, fileError := e, e
	var names []string
	text, id := "", 0
	if e == api.OK && n.kind == api.Dir {
		fileError = api.ErrDir
		for name := range n.names {
			names = append(names, name)
		}
		slices.Sort(names)
	} else if e == api.OK {
		namesError, text, id = api.ErrFile, n.text, n.id
	}
	if got, ge := s.Names(path); !slices.Equal(got, names) || ge != namesError {
		t.Fatalf("Names(%q): %q, %d; want %q, %d", path, got, ge, names, namesError)
	}
	if got, ge := s.Read(path); string(got) != text || ge != fileError {
		t.Fatalf("Read(%q): %q, %d; want %q, %d", path, got, ge, text, fileError)
	}
	if got, ge := s.Find(path); got != id || ge != fileError {
		t.Fatalf("Find(%q): %d, %d; want %d, %d", path, got, ge, id, fileError)
	}
	kind := api.NoFile
	if clean, _ := files.Clean(path); clean == "/" {
		kind = api.Dir
	} else if dir, name, e := m.place(path); e == api.OK && dir.names[name] != nil {
		kind = dir.names[name].kind
	}
	if got := s.Kind(path); got != kind {
		t.Fatalf("Kind(%q): %d, want %d", path, got, kind)
	}
}

// draws tells numbers by a rule, the same ones in every run.
type draws uint64

func (d *draws) below(n int) int {
	*d = *d*6364136223846793005 + 1442695040888963407
	return int(uint64(*d) >> 33 % uint64(n))
}

func (d *draws) path() string {
	parts := []string{"a", "b", "c", "a", "b", "c", "d", "..", ".", "", "..."}
	path := ""
	for range d.below(5) {
		path += "/" + parts[d.below(len(parts))]
	}
	if d.below(12) == 0 {
		return strings.TrimPrefix(path, "/")
	}
	return path + []string{"", "", "/"}[d.below(3)]
}

func (d *draws) change(s *files.Store, m *model) (string, api.Errno, api.Errno) {
	p, q := d.path(), d.path()
	switch d.below(13) {
	case 0, 1:
		return "Mkdir " + p, s.Mkdir(p), m.create(p, &node{kind: api.Dir}, api.OK)
	case 2, 3, 4:
		return "Put " + p, s.Put(p, []byte(q)), m.put(p, q)
	case 5, 6, 7:
		return "Also " + p + " " + q, s.Also(p, q), m.also(p, q)
	case 8, 9:
		q = strings.TrimPrefix(q, "/")
		if d.below(3) == 0 {
			q = "/" + q
		}
		return "Symlink " + p + " " + q, s.Symlink(p, q), m.symlink(p, q)
	case 10:
		return "Remove " + p, s.Remove(p), m.remove(p)
	}
	return "Rename " + p + " " + q, s.Rename(p, q), m.rename(p, q)
}

// P3.1 to P3.5: many calls, by a rule, each of which does what the model does.
func TestModel(t *testing.T) {
	d := draws(1)
	for range 40 {
		s, m := files.New(), newModel()
		for range 800 {
			call, got, want := d.change(s, m)
			if got != want {
				t.Fatalf("%s: %d, want %d", call, got, want)
			}
			for range 3 {
				m.compare(t, s, d.path())
			}
		}
	}
}
