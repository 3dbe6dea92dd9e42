package files_test

import (
	"bytes"
	"slices"
	"strconv"
	"strings"
	"testing"

	"clevis/api"
	"clevis/files"
)

// P3.2: a new store contains only /.
func TestNew(t *testing.T) {
	s := files.New()
	wantNames(t, s, "/")
	wantKind(t, s, "/", api.Dir)
	wantReal(t, s, "/", "/")
	must(t, s.Put("/x", nil))
	wantFile(t, s, "/x", 1, "")
}

// W2: stores have nothing in common.
func TestStoresAreIndependent(t *testing.T) {
	one, two := files.New(), files.New()
	must(t, one.Put("/x", []byte("a")), one.Put("/y", []byte("b")), two.Put("/z", []byte("c")))
	wantFile(t, one, "/y", 2, "b")
	wantFile(t, two, "/z", 1, "c")
	wantNames(t, two, "/", "z")
}

// P3.2: what each call creates.
func TestCreate(t *testing.T) {
	s := files.New()
	must(t, s.Mkdir("/d"), s.Put("/d/f", []byte("abc")), s.Also("/g", "/d/f"), s.Symlink("/d/l", "../g"), s.Mkdir("/d/e/"))
	wantKind(t, s, "/d", api.Dir)
	wantKind(t, s, "/d/f", api.Plain)
	wantKind(t, s, "/g", api.Plain)
	wantKind(t, s, "/d/l", api.Link)
	wantKind(t, s, "/d/e", api.Dir)
	wantNames(t, s, "/", "d", "g")
	wantNames(t, s, "/d", "e", "f", "l")
	wantNames(t, s, "/d/e")
	for _, path := range []string{"/d/f", "/g", "/d/l"} {
		wantFile(t, s, path, 1, "abc")
	}
	wantReal(t, s, "/d/l", "/g")
}

// P3.2: what is there already: each kind of it, for each call.
func TestCreateWhereSomethingIs(t *testing.T) {
	s := sample(t)
	for _, c := range creations() {
		for _, path := range []string{"/dir", "/dir/sub", "/to-sub/../sub", "/file", "/dir/f", "/to-file", "/to-dir", "/to-nothing", "/to-self"} {
			want := api.ErrThere
			kind := s.Kind(path)
			if c.name == "Put" && kind == api.Dir {
				want = api.ErrDir
			}
			if c.name == "Put" && kind == api.Plain {
				continue
			}
			wantRefused(t, c.name+" "+path, s, want, func() api.Errno { return c.call(s, path) })
		}
	}
}

// P3.2: identities are 1, 2, 3, .. in the order of the Puts, and none of them is given twice.
func TestIdentities(t *testing.T) {
	s := files.New()
	for i := range 20 {
		must(t, s.Put("/x", []byte{byte(i)}))
		wantFile(t, s, "/x", i+1, string([]byte{byte(i)}))
	}
	must(t, s.Remove("/x"), s.Put("/x", []byte("z")))
	wantFile(t, s, "/x", 21, "z")
	must(t, s.Put("/y", []byte("z")), s.Put("/y", []byte("z")), s.Rename("/y", "/x"), s.Put("/y", nil))
	wantFile(t, s, "/x", 23, "z")
	wantFile(t, s, "/y", 24, "")
}

// P3.2 with W3: a Put that fails, and calls that are no Puts, use no identity.
func TestIdentitiesOfPutsAlone(t *testing.T) {
	s := files.New()
	must(t, s.Put("/x", nil), s.Mkdir("/d"), s.Symlink("/l", "x"), s.Also("/y", "/x"))
	for _, path := range []string{"/d", "/l", "/x/y", "/no/y", "x"} {
		if e := s.Put(path, nil); e == api.OK {
			t.Errorf("Put(%q): %d", path, e)
		}
	}
	if e := s.Put("/long", make([]byte, 1<<20+1)); e != api.ErrLong {
		t.Errorf("a file that is too long: %d", e)
	}
	fill(t, s, 500)
	if e := s.Put("/full", nil); e != api.ErrFull {
		t.Errorf("one file too many: %d", e)
	}
	must(t, s.Put("/x", nil))
	wantFile(t, s, "/x", 2, "")
	wantFile(t, s, "/y", 1, "")
}

// P3.2: files have at most 2^20 bytes.
func TestPutAtLimit(t *testing.T) {
	s := sample(t)
	must(t, s.Put("/new", longest()), s.Put("/file", longest()))
	wantFile(t, s, "/new", 3, string(longest()))
	wantFile(t, s, "/file", 4, string(longest()))
	long := append(longest(), 7)
	for path, want := range map[string]api.Errno{
		"/newer": api.ErrLong, "/file": api.ErrLong, "/dir/f": api.ErrLong,
		"/dir": api.ErrDir, "/to-file": api.ErrThere, "/file/x": api.ErrFile, "/no/x": api.ErrNone, "no": api.ErrPath, "/": api.ErrPath,
	} {
		wantRefused(t, "Put "+path, s, want, func() api.Errno { return s.Put(path, long) })
	}
}

// P3.2: a file is one thing under several names; replacing it under one of them leaves it under the others.
func TestAlso(t *testing.T) {
	s := sample(t)
	must(t, s.Also("/dir/sub/b", "/file"), s.Also("/c", "/dir/sub/b"), s.Also("/d", "/to-file"), s.Also("/e", "/dir/up/to-dir/../file"))
	names := []string{"/file", "/dir/sub/b", "/c", "/d", "/e"}
	for _, path := range names {
		wantFile(t, s, path, 1, "one")
		wantKind(t, s, path, api.Plain)
		wantReal(t, s, path, path)
	}
	must(t, s.Put("/c", []byte("new")), s.Remove("/file"))
	wantFile(t, s, "/c", 3, "new")
	wantNoFile(t, s, "/to-file", api.ErrNone)
	for _, path := range []string{"/dir/sub/b", "/d", "/e"} {
		wantFile(t, s, path, 1, "one")
	}
}

// P3.2: the errors of Also, in their order.
func TestAlsoErrors(t *testing.T) {
	s := sample(t)
	chain(t, s, "f", "file", 9)
	wrong := map[string]api.Errno{
		"/": api.ErrDir, "/dir": api.ErrDir, "/dir/sub/..": api.ErrDir, "/to-dir": api.ErrDir, "/to-sub": api.ErrDir, "/..": api.ErrDir,
		"/nothing": api.ErrNone, "/to-nothing": api.ErrNone, "/nothing/x": api.ErrNone, "/new": api.ErrNone,
		"/file/x": api.ErrFile, "/file/..": api.ErrFile, "/to-file/x": api.ErrFile, "/to-self": api.ErrLoop, "/f9": api.ErrLoop,
	}
	for _, of := range wrongPaths() {
		wrong[of] = api.ErrPath
	}
	for of, want := range wrong {
		wantRefused(t, "of "+of, s, want, func() api.Errno { return s.Also("/new", of) })
		wantRefused(t, "to a place that is taken, of "+of, s, api.ErrThere, func() api.Errno { return s.Also("/dir", of) })
		wantRefused(t, "to a place that is missing, of "+of, s, api.ErrNone, func() api.Errno { return s.Also("/no/x", of) })
		wantRefused(t, "to no path, of "+of, s, api.ErrPath, func() api.Errno { return s.Also("new", of) })
	}
	wantRefused(t, "a file onto itself", s, api.ErrThere, func() api.Errno { return s.Also("/file", "/file") })
	fill(t, s, 500)
	for of, want := range wrong {
		wantRefused(t, "in a full store, of "+of, s, want, func() api.Errno { return s.Also("/new", of) })
	}
}

// P3.2: a link leads to a path, absolute or not, whether or not there is something.
func TestSymlink(t *testing.T) {
	s := sample(t)
	for i, to := range []string{"/", ".", "..", "./", "//", "/file", "file", "nothing", "/nothing/x", "../file/x", "...",
		strings.Repeat("p", 64), strings.Repeat("/abc", 50), strings.Repeat("abc/", 50), strings.Repeat("/", 200)} {
		path := "/dir/sub/" + strconv.Itoa(i)
		if e := s.Symlink(path, to); e != api.OK {
			t.Errorf("Symlink to %q: %d", to, e)
		}
		wantKind(t, s, path, api.Link)
	}
	wantReal(t, s, "/dir/sub/0", "/")
	wantReal(t, s, "/dir/sub/1", "/dir/sub")
	wantReal(t, s, "/dir/sub/2", "/dir")
	wantReal(t, s, "/dir/sub/4", "/")
	wantNoWay(t, s, "/dir/sub/6", api.ErrNone)
	must(t, s.Put("/dir/sub/file", []byte("later")))
	wantFile(t, s, "/dir/sub/6", 3, "later")
}

// P3.2: the errors of Symlink, in their order.
func TestSymlinkErrors(t *testing.T) {
	s := sample(t)
	wrong := []string{"", "a b", "a\x00", strings.Repeat("a", 65), "../" + strings.Repeat("a", 65), strings.Repeat("/abc", 50) + "/",
		strings.Repeat("a/", 100) + "a", "\xff", "a*"}
	for _, full := range []bool{false, true} {
		if full {
			fill(t, s, 500)
		}
		for _, to := range wrong {
			wantRefused(t, "to "+to, s, api.ErrPath, func() api.Errno { return s.Symlink("/new", to) })
			wantRefused(t, "at a place that is taken, to "+to, s, api.ErrThere, func() api.Errno { return s.Symlink("/to-self", to) })
			wantRefused(t, "at a place that is missing, to "+to, s, api.ErrNone, func() api.Errno { return s.Symlink("/no/x", to) })
			wantRefused(t, "behind a file, to "+to, s, api.ErrFile, func() api.Errno { return s.Symlink("/file/x", to) })
		}
	}
}

// P3.2: 500 places beside / may be in use, whatever is at them.
func TestFull(t *testing.T) {
	for _, c := range creations() {
		s := sample(t)
		must(t, s.Also("/dir/also", "/file"))
		fill(t, s, 499)
		wantNames(t, s, "/dir/sub")
		if e := c.call(s, "/dir/sub/last"); e != api.OK {
			t.Errorf("%s at place 500: %d", c.name, e)
		}
		wantNames(t, s, "/dir/sub", "last")
		for _, d := range creations() {
			wantRefused(t, d.name+" at place 501", s, api.ErrFull, func() api.Errno { return d.call(s, "/new") })
		}
		must(t, s.Remove("/dir/sub/last"), c.call(s, "/new"))
		wantRefused(t, "Mkdir", s, api.ErrFull, func() api.Errno { return s.Mkdir("/newer") })
	}
}

// P3.2: what needs no new place is done in a full store, too, and every other error comes ahead of ErrFull.
func TestFullWithoutNewPlace(t *testing.T) {
	s := sample(t)
	fill(t, s, 500)
	must(t, s.Put("/file", []byte("again")), s.Rename("/dir/f", "/dir/g"), s.Rename("/to-self", "/to-other"))
	wantFile(t, s, "/file", 3, "again")
	wantFile(t, s, "/dir/g", 2, "two")
	wantRefused(t, "Put", s, api.ErrFull, func() api.Errno { return s.Put("/dir/f", nil) })
	wantRefused(t, "a long Put", s, api.ErrLong, func() api.Errno { return s.Put("/dir/f", make([]byte, 1<<20+1)) })
	for _, c := range creations() {
		wantRefused(t, c.name+" at a link", s, api.ErrThere, func() api.Errno { return c.call(s, "/to-dir") })
		wantRefused(t, c.name+" at no place", s, api.ErrPath, func() api.Errno { return c.call(s, "/dir/..") })
		wantRefused(t, c.name+" behind a file", s, api.ErrFile, func() api.Errno { return c.call(s, "/file/x") })
	}
	must(t, s.Rename("/dir/g", "/file"), s.Mkdir("/dir/f"))
	wantRefused(t, "Mkdir", s, api.ErrFull, func() api.Errno { return s.Mkdir("/new") })
}

// P3.2 with W6: neither the bytes nor their spare room are kept or changed.
func TestPutKeepsNoArgument(t *testing.T) {
	s := files.New()
	room := []byte("abcdef")
	must(t, s.Put("/x", room[:3]), s.Put("/y", room[:0]))
	clear(room[:3])
	wantFile(t, s, "/x", 1, "abc")
	wantFile(t, s, "/y", 2, "")
	if !bytes.Equal(room, []byte("\x00\x00\x00def")) || !slices.Equal(room[3:], []byte("def")) {
		t.Errorf("the argument changed: %q", room)
	}
}
