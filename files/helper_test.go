package files_test

import (
	"bytes"
	"maps"
	"slices"
	"strconv"
	"strings"
	"testing"

	"clevis/api"
	"clevis/files"
)

func must(t *testing.T, errs ...api.Errno) {
	t.Helper()
	for i, e := range errs {
		if e != api.OK {
			t.Fatalf("call %d: %d", i, e)
		}
	}
}

// told returns everything that can be read of a store, by place.
func told(t *testing.T, s *files.Store) map[string]string {
	t.Helper()
	all := map[string]string{}
	dirs := []string{""}
	for len(dirs) > 0 {
		dir := dirs[0]
		dirs = dirs[1:]
		names, e := s.Names(dir + "/")
		if e != api.OK {
			t.Fatalf("Names(%q): %d", dir+"/", e)
		}
		for _, name := range names {
			path := dir + "/" + name
			all[path] = tellOf(s, path)
			if s.Kind(path) == api.Dir {
				dirs = append(dirs, path)
			}
		}
	}
	return all
}

func tellOf(s *files.Store, path string) string {
	real, e := s.Real(path)
	id, e2 := s.Find(path)
	b, e3 := s.Read(path)
	text := []string{real, string(b)}
	for _, n := range []int{int(s.Kind(path)), int(e), id, int(e2), int(e3)} {
		text = append(text, strconv.Itoa(n))
	}
	return strings.Join(text, " ")
}

// nextID returns the identity that the next file of a store would have.
func nextID(t *testing.T, s *files.Store) int {
	t.Helper()
	c := s.Copy()
	names, _ := c.Names("/")
	for _, name := range names {
		if c.Remove("/"+name) == api.OK { // for the store may be full
			break
		}
	}
	must(t, c.Put("/next-id", nil))
	id, e := c.Find("/next-id")
	must(t, e)
	return id
}

// wantRefused makes a call that must fail and change nothing.
func wantRefused(t *testing.T, what string, s *files.Store, want api.Errno, call func() api.Errno) {
	t.Helper()
	was, id := told(t, s), nextID(t, s)
	if e := call(); e != want {
		t.Errorf("%q: %d, want %d", what, e, want)
	}
	if !maps.Equal(told(t, s), was) || nextID(t, s) != id {
		t.Errorf("%q: the store has changed", what)
	}
}

// change is a call that changes a store, with a name to tell it by.
type change struct {
	name string
	call func(s *files.Store, path string) api.Errno
}

// creations returns the calls that create something at a path, all with right arguments beside it; /file is a file.
func creations() []change {
	return []change{
		{"Mkdir", func(s *files.Store, path string) api.Errno { return s.Mkdir(path) }},
		{"Put", func(s *files.Store, path string) api.Errno { return s.Put(path, []byte("new")) }},
		{"Also", func(s *files.Store, path string) api.Errno { return s.Also(path, "/file") }},
		{"Symlink", func(s *files.Store, path string) api.Errno { return s.Symlink(path, "/file") }},
	}
}

// changes returns all calls that need the place of a path; /file is a file.
func changes() []change {
	return append(creations(),
		change{"Remove", func(s *files.Store, path string) api.Errno { return s.Remove(path) }},
		change{"Rename from", func(s *files.Store, path string) api.Errno { return s.Rename(path, "/other") }},
		change{"Rename to", func(s *files.Store, path string) api.Errno { return s.Rename("/file", path) }},
	)
}

// sample returns a store with the file /file, the directory /dir with the file f, the directory sub and the link up in it, and links at /.
func sample(t *testing.T) *files.Store {
	t.Helper()
	s := files.New()
	must(t,
		s.Put("/file", []byte("one")),
		s.Mkdir("/dir"),
		s.Put("/dir/f", []byte("two")),
		s.Mkdir("/dir/sub"),
		s.Symlink("/dir/up", ".."),
		s.Symlink("/to-dir", "dir"),
		s.Symlink("/to-sub", "/dir/sub"),
		s.Symlink("/to-file", "/file"),
		s.Symlink("/to-nothing", "nothing"),
		s.Symlink("/to-self", "to-self"),
	)
	return s
}

func wantFile(t *testing.T, s *files.Store, path string, id int, b string) {
	t.Helper()
	if got, e := s.Read(path); e != api.OK || string(got) != b {
		t.Errorf("Read(%q): %.20q, %d; want %.20q", path, got, e, b)
	}
	if got, e := s.Find(path); e != api.OK || got != id {
		t.Errorf("Find(%q): %d, %d; want %d", path, got, e, id)
	}
}

// wantNoFile asks for a file that must not be found.
func wantNoFile(t *testing.T, s *files.Store, path string, want api.Errno) {
	t.Helper()
	if b, e := s.Read(path); e != want || len(b) != 0 {
		t.Errorf("Read(%q): %q, %d; want %d", path, b, e, want)
	}
	if id, e := s.Find(path); e != want || id != 0 {
		t.Errorf("Find(%q): %d, %d; want %d", path, id, e, want)
	}
}

// wantNoWay asks for the end of a way that fails.
func wantNoWay(t *testing.T, s *files.Store, path string, want api.Errno) {
	t.Helper()
	wantNoFile(t, s, path, want)
	if real, e := s.Real(path); e != want || real != "" {
		t.Errorf("Real(%q): %q, %d; want %d", path, real, e, want)
	}
	if names, e := s.Names(path); e != want || len(names) != 0 {
		t.Errorf("Names(%q): %q, %d; want %d", path, names, e, want)
	}
}

func wantReal(t *testing.T, s *files.Store, path, want string) {
	t.Helper()
	if real, e := s.Real(path); e != api.OK || real != want {
		t.Errorf("Real(%q): %q, %d; want %q", path, real, e, want)
	}
}

func wantNames(t *testing.T, s *files.Store, path string, want ...string) {
	t.Helper()
	if names, e := s.Names(path); e != api.OK || !slices.Equal(names, want) {
		t.Errorf("Names(%q): %q, %d; want %q", path, names, e, want)
	}
}

func wantKind(t *testing.T, s *files.Store, path string, want api.FileKind) {
	t.Helper()
	if kind := s.Kind(path); kind != want {
		t.Errorf("Kind(%q): %d, want %d", path, kind, want)
	}
}

// fill creates empty directories until a number of places is in use.
func fill(t *testing.T, s *files.Store, places int) {
	t.Helper()
	for i := len(told(t, s)); i < places; i++ {
		must(t, s.Mkdir("/fill-"+strconv.Itoa(i)))
	}
}

func longest() []byte { return bytes.Repeat([]byte{7}, 1<<20) }
