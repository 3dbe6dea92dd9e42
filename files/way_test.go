package files_test

import (
	"strconv"
	"strings"
	"testing"

	"clevis/api"
	"clevis/files"
)

// Words: a way goes part by part, past ignored parts, and `..` leads to the parent directory.
func TestWay(t *testing.T) {
	s := sample(t)
	for path, want := range map[string]string{
		"/": "/", "//": "/", "/.": "/", "/..": "/", "/../../": "/",
		"/file": "/file", "/file/": "/file", "/file/.": "/file", "/file/./": "/file", "/../file": "/file",
		"/dir": "/dir", "/dir/sub/..": "/dir", "/dir/sub/../..": "/", "/dir/sub/../../..": "/",
		"/dir//./sub/../f": "/dir/f", "/dir/sub/../../file": "/file",
	} {
		wantReal(t, s, path, want)
	}
}

// Words: links are followed from / on or from their directory, and `..` behind a link leads to the parent of where it led.
func TestWayOfLinks(t *testing.T) {
	s := sample(t)
	must(t,
		s.Symlink("/dir/sub/here", "."),
		s.Symlink("/dir/sub/root", "/"),
		s.Symlink("/dir/sub/f", "../f"),
		s.Symlink("/dir/sub/odd", "..//./sub/../f/"),
		s.Symlink("/dir/sub/out", "/to-dir/../to-dir"),
		s.Symlink("/dir/sub/above", "../../../.."),
	)
	for path, want := range map[string]string{
		"/to-file": "/file", "/to-file/": "/file", "/to-dir": "/dir", "/to-dir/f": "/dir/f",
		"/to-sub": "/dir/sub", "/to-sub/..": "/dir", "/to-sub/../f": "/dir/f", "/to-sub/../..": "/",
		"/dir/up": "/", "/dir/up/file": "/file", "/to-dir/up/to-dir/up/dir": "/dir",
		"/dir/sub/here/here/..": "/dir", "/dir/sub/root": "/", "/dir/sub/root/file": "/file", "/dir/sub/root/..": "/",
		"/dir/sub/f": "/dir/f", "/to-sub/f": "/dir/f", "/to-sub/odd": "/dir/f",
		"/to-sub/out/sub": "/dir/sub", "/to-sub/above/dir": "/dir",
	} {
		wantReal(t, s, path, want)
	}
}

// Words: the errors of a way, in whichever order it meets them.
func TestWayErrors(t *testing.T) {
	s := sample(t)
	must(t,
		s.Symlink("/into-file", "/file/x"),
		s.Symlink("/out-of-file", "file/.."),
		s.Symlink("/beside", "/nothing/.."),
		s.Symlink("/self-and-more", "self-and-more/x"),
	)
	for path, want := range map[string]api.Errno{
		"/nothing": api.ErrNone, "/nothing/..": api.ErrNone, "/nothing/x": api.ErrNone, "/dir/nothing/../f": api.ErrNone,
		"/dir/file": api.ErrNone, "/dir/../f": api.ErrNone, "/File": api.ErrNone, "/fil": api.ErrNone, "/...": api.ErrNone,
		"/to-nothing": api.ErrNone, "/to-nothing/x": api.ErrNone, "/to-nothing/..": api.ErrNone, "/beside": api.ErrNone,
		"/file/x": api.ErrFile, "/file/..": api.ErrFile, "/file/./x": api.ErrFile, "/file/../file": api.ErrFile,
		"/dir/f/x/y": api.ErrFile, "/to-file/x": api.ErrFile, "/to-file/..": api.ErrFile,
		"/into-file": api.ErrFile, "/out-of-file": api.ErrFile,
		"/to-self": api.ErrLoop, "/to-self/x": api.ErrLoop, "/to-self/..": api.ErrLoop, "/self-and-more": api.ErrLoop,
		"/nothing/to-self": api.ErrNone, "/file/to-self": api.ErrFile, "/to-self/nothing": api.ErrLoop,
		"/dir/up/to-nothing": api.ErrNone, "/dir/up/file/x": api.ErrFile,
	} {
		wantNoWay(t, s, path, want)
	}
	for _, path := range wrongPaths() {
		wantNoWay(t, s, path, api.ErrPath)
	}
}

// chain makes links 1 to n, each to the one before it, the first to what is named.
func chain(t *testing.T, s *files.Store, name, to string, n int) {
	t.Helper()
	for i := 1; i <= n; i++ {
		must(t, s.Symlink("/"+name+strconv.Itoa(i), to))
		to = name + strconv.Itoa(i)
	}
}

// Words: eight links on one way are followed, the ninth is not, wherever it leads.
func TestWayOfManyLinks(t *testing.T) {
	s := sample(t)
	chain(t, s, "file", "file", 9)
	chain(t, s, "dir", "/dir/", 9)
	chain(t, s, "none", "nothing", 9)
	wantReal(t, s, "/file8", "/file")
	wantFile(t, s, "/file8", 1, "one")
	wantReal(t, s, "/dir8", "/dir")
	wantReal(t, s, "/dir8/f", "/dir/f")
	wantReal(t, s, "/dir4/../dir4", "/dir")
	wantReal(t, s, strings.Repeat("/dir/up", 8), "/")
	wantNoWay(t, s, "/none8", api.ErrNone)
	wantNoWay(t, s, "/file8/x", api.ErrFile)
	for _, path := range []string{"/file9", "/dir9", "/dir9/f", "/none9", "/file9/x", "/dir8/up", "/dir4/../dir5",
		"/dir8/../to-nothing", strings.Repeat("/dir/up", 9), strings.Repeat("/dir/up", 8) + "/to-self"} {
		wantNoWay(t, s, path, api.ErrLoop)
	}
}

// Words: links that lead to one another.
func TestWayInCircle(t *testing.T) {
	s := files.New()
	must(t, s.Symlink("/a", "b"), s.Symlink("/b", "/a"), s.Symlink("/c", "./c/.."), s.Symlink("/l", "l"))
	for _, path := range []string{"/a", "/b", "/a/x", "/c", "/l"} {
		wantNoWay(t, s, path, api.ErrLoop)
		wantKind(t, s, path[:2], api.Link)
	}
}

// Words: the place of a path is asked ahead of everything else, by each call that needs one.
func TestPlaceErrors(t *testing.T) {
	s := sample(t)
	chain(t, s, "d", "/dir", 9)
	wrong := map[string]api.Errno{
		"/": api.ErrPath, "//./": api.ErrPath, "/..": api.ErrPath, "/dir/..": api.ErrPath, "/dir/../.": api.ErrPath,
		"/nothing/..": api.ErrPath, "/file/..": api.ErrPath, "/to-self/..": api.ErrPath, "/dir/sub/..//": api.ErrPath,
		"/nothing/x": api.ErrNone, "/to-nothing/x": api.ErrNone, "/dir/nothing/x": api.ErrNone, "/nothing/../x": api.ErrNone,
		"/file/x": api.ErrFile, "/file/x/y": api.ErrFile, "/to-file/x": api.ErrFile, "/dir/f/x": api.ErrFile, "/file/../x": api.ErrFile,
		"/to-self/x": api.ErrLoop, "/d9/x": api.ErrLoop, "/d8/up/x": api.ErrLoop,
	}
	for _, path := range wrongPaths() {
		wrong[path] = api.ErrPath
	}
	for _, c := range changes() {
		for path, want := range wrong {
			wantRefused(t, c.name+" "+path, s, want, func() api.Errno { return c.call(s, path) })
		}
	}
}

// Words: a place is the same by whatever way, and a link at it is not followed.
func TestPlaceByOtherWays(t *testing.T) {
	for _, path := range []string{"/dir/sub/x", "//dir/./sub/x/", "/dir/sub/x/.", "/to-sub/x", "/to-dir/sub/x",
		"/to-sub/../sub/x", "/dir/up/dir/sub/x", "/dir/sub/../../to-sub/x", "/../to-sub/x"} {
		for _, c := range creations() {
			s := sample(t)
			must(t, c.call(s, path))
			wantNames(t, s, "/dir/sub", "x")
			if s.Kind("/dir/sub/x") == api.NoFile || s.Kind(path) != s.Kind("/dir/sub/x") {
				t.Errorf("%s(%q): the kind is %d there, %d here", c.name, path, s.Kind("/dir/sub/x"), s.Kind(path))
			}
			if e := s.Remove("/to-sub/x"); e != api.OK {
				t.Errorf("%s(%q): Remove: %d", c.name, path, e)
			}
			wantNames(t, s, "/dir/sub")
		}
	}
	s := sample(t)
	must(t, s.Remove("/to-sub/"), s.Rename("/to-file", "/to-file2"), s.Remove("/to-nothing"), s.Remove("/to-self"))
	wantNames(t, s, "/", "dir", "file", "to-dir", "to-file2")
	wantNames(t, s, "/dir", "f", "sub", "up")
}

// Words: eight links lead to a place, and the link at it is not counted.
func TestPlaceBehindManyLinks(t *testing.T) {
	s := sample(t)
	chain(t, s, "d", "/dir", 8)
	must(t, s.Symlink("/d8/x", "d8"), s.Put("/d8/y", nil))
	wantKind(t, s, "/d8/x", api.Link)
	wantKind(t, s, "/dir/x", api.Link)
	must(t, s.Remove("/d8/x"))
	wantNames(t, s, "/dir", "f", "sub", "up", "y")
	must(t, s.Rename("/d8/y", "/d8/f"), s.Also("/d8/z", "/d8/f"))
	wantNames(t, s, "/dir", "f", "sub", "up", "z")
}
