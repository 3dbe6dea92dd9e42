package files_test

import (
	"testing"

	"clevis/api"
	"clevis/files"
)

// P3.3: files, links and empty directories are removed.
func TestRemove(t *testing.T) {
	s := sample(t)
	must(t, s.Remove("/to-file"), s.Remove("/to-self"), s.Remove("/dir/f"), s.Remove("/dir/sub"), s.Remove("/to-dir/up"), s.Remove("/dir/"))
	wantNames(t, s, "/", "file", "to-dir", "to-nothing", "to-sub")
	wantFile(t, s, "/file", 1, "one")
	wantNoWay(t, s, "/to-dir", api.ErrNone)
	must(t, s.Mkdir("/dir"))
	wantNames(t, s, "/to-dir")
}

// P3.3: a file remains at its other places.
func TestRemoveOneName(t *testing.T) {
	s := sample(t)
	must(t, s.Also("/dir/also", "/file"), s.Remove("/file"))
	wantFile(t, s, "/dir/also", 1, "one")
	wantNoFile(t, s, "/file", api.ErrNone)
	must(t, s.Put("/file", []byte("new")))
	wantFile(t, s, "/dir/also", 1, "one")
	wantFile(t, s, "/file", 3, "new")
	must(t, s.Remove("/dir/also"))
	wantNoFile(t, s, "/dir/also", api.ErrNone)
}

// P3.3: what can't be removed.
func TestRemoveErrors(t *testing.T) {
	s := sample(t)
	must(t, s.Mkdir("/dir2"), s.Mkdir("/di"))
	for path, want := range map[string]api.Errno{
		"/nothing": api.ErrNone, "/dir/nothing": api.ErrNone, "/dir/sub/f": api.ErrNone, "/to-sub/x": api.ErrNone,
		"/dir": api.ErrDir, "/dir/": api.ErrDir, "/dir/up/dir": api.ErrDir, "/": api.ErrPath,
	} {
		wantRefused(t, "Remove "+path, s, want, func() api.Errno { return s.Remove(path) })
	}
	must(t, s.Remove("/di"), s.Remove("/dir2"))
}

// P3.3: a directory is not empty because of any one thing in it.
func TestRemoveNonempty(t *testing.T) {
	for _, c := range creations() {
		s := sample(t)
		must(t, c.call(s, "/dir/sub/x"))
		wantRefused(t, "a directory with one thing of "+c.name, s, api.ErrDir, func() api.Errno { return s.Remove("/dir/sub") })
		must(t, s.Remove("/dir/sub/x"), s.Remove("/dir/sub"))
	}
}

// P3.3: files and links move, to a new place or onto a file or a link, and the link at a place is not followed.
func TestRename(t *testing.T) {
	s := sample(t)
	must(t, s.Rename("/file", "/dir/sub/g"))
	wantFile(t, s, "/dir/sub/g", 1, "one")
	wantNoFile(t, s, "/file", api.ErrNone)
	must(t, s.Rename("/to-sub/g", "/to-dir/f"))
	wantFile(t, s, "/dir/f", 1, "one")
	wantNames(t, s, "/dir/sub")
	must(t, s.Rename("/dir/f", "/to-dir"))
	wantFile(t, s, "/to-dir", 1, "one")
	wantNames(t, s, "/dir", "sub", "up")
	must(t, s.Rename("/to-nothing", "/to-dir"), s.Put("/dir/sub/nothing", []byte("here")))
	wantKind(t, s, "/to-dir", api.Link)
	wantNoFile(t, s, "/to-dir", api.ErrNone)
	must(t, s.Rename("/to-dir", "/dir/sub/x"))
	wantFile(t, s, "/dir/sub/x", 3, "here")
	must(t, s.Rename("/to-self", "/dir/sub/x"))
	wantNoFile(t, s, "/dir/sub/x", api.ErrNone)
	wantKind(t, s, "/dir/sub/x", api.Link)
	wantNames(t, s, "/", "dir", "to-file", "to-sub")
}

// P3.3: what is at one place, by whatever ways, remains there.
func TestRenameOntoItself(t *testing.T) {
	s := sample(t)
	was := told(t, s)
	for _, pair := range [][2]string{{"/file", "/file"}, {"/dir/f", "/to-dir/./f"}, {"/to-self", "/dir/../to-self/"}, {"/dir/up", "/dir/up/to-dir/up"}} {
		if e := s.Rename(pair[0], pair[1]); e != api.OK {
			t.Errorf("Rename(%q, %q): %d", pair[0], pair[1], e)
		}
		if now := told(t, s); len(now) != len(was) || now["/file"] != was["/file"] || now["/dir/f"] != was["/dir/f"] || now["/dir/up"] != was["/dir/up"] {
			t.Errorf("Rename(%q, %q) leaves %q", pair[0], pair[1], now)
		}
	}
}

// P3.3: two names of one file are two places: one of them is gone.
func TestRenameOntoOtherName(t *testing.T) {
	s := sample(t)
	must(t, s.Also("/a", "/file"), s.Also("/b", "/file"), s.Rename("/file", "/a"))
	wantNoFile(t, s, "/file", api.ErrNone)
	wantFile(t, s, "/a", 1, "one")
	must(t, s.Rename("/dir/f", "/a"))
	wantFile(t, s, "/a", 2, "two")
	wantFile(t, s, "/b", 1, "one")
}

// P3.3: the errors of Rename, in their order: those of from, then those of to, then ErrDir.
func TestRenameErrors(t *testing.T) {
	s := sample(t)
	for _, c := range []struct {
		from, to string
		want     api.Errno
	}{
		{"file", "x y", api.ErrPath}, {"/..", "/no/x", api.ErrPath}, {"/no/x", "x y", api.ErrNone}, {"/file/x", "/", api.ErrFile},
		{"/to-self/x", "/", api.ErrLoop}, {"/nothing", "x", api.ErrNone}, {"/nothing", "/file/x", api.ErrNone}, {"/nothing", "/dir", api.ErrNone},
		{"/nothing", "/nothing", api.ErrNone}, {"/dir/nothing", "/to-self/x", api.ErrNone},
		{"/file", "x", api.ErrPath}, {"/file", "/", api.ErrPath}, {"/file", "/dir/..", api.ErrPath}, {"/file", "/no/x", api.ErrNone},
		{"/file", "/file/x", api.ErrFile}, {"/file", "/dir/f/x", api.ErrFile}, {"/file", "/to-self/x", api.ErrLoop},
		{"/dir", "x", api.ErrPath}, {"/dir", "/no/x", api.ErrNone}, {"/dir", "/file/x", api.ErrFile}, {"/dir", "/to-self/x", api.ErrLoop},
		{"/dir", "/new", api.ErrDir}, {"/dir", "/file", api.ErrDir}, {"/dir", "/dir", api.ErrDir}, {"/dir", "/dir/x", api.ErrDir},
		{"/dir/sub", "/new", api.ErrDir}, {"/dir/sub", "/to-self", api.ErrDir},
		{"/file", "/dir", api.ErrDir}, {"/file", "/dir/sub", api.ErrDir}, {"/to-self", "/dir/sub", api.ErrDir}, {"/dir/f", "/dir", api.ErrDir},
	} {
		wantRefused(t, "Rename "+c.from+" "+c.to, s, c.want, func() api.Errno { return s.Rename(c.from, c.to) })
	}
}

// P3.3: Rename uses no place more, and one less if something was there.
func TestRenameKeepsCount(t *testing.T) {
	s := files.New()
	must(t, s.Put("/a", nil), s.Put("/b", nil))
	fill(t, s, 500)
	must(t, s.Rename("/a", "/c"), s.Rename("/c", "/c"))
	wantRefused(t, "Mkdir", s, api.ErrFull, func() api.Errno { return s.Mkdir("/new") })
	must(t, s.Rename("/b", "/c"), s.Mkdir("/new"))
	wantRefused(t, "Mkdir", s, api.ErrFull, func() api.Errno { return s.Mkdir("/newer") })
}
