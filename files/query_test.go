package files_test

import (
	"strings"
	"testing"

	"clevis/api"
	"clevis/files"
)

// P3.4: Kind tells what is at the place, and follows no link there.
func TestKind(t *testing.T) {
	s := sample(t)
	for path, want := range map[string]api.FileKind{
		"/file": api.Plain, "/dir/f": api.Plain, "/to-dir/f/.": api.Plain, "/dir/up/file": api.Plain, "/dir/sub/../f": api.Plain,
		"/dir": api.Dir, "/dir/": api.Dir, "/to-dir/sub": api.Dir,
		"/to-file": api.Link, "/to-dir/": api.Link, "/to-nothing": api.Link, "/to-self": api.Link, "/to-dir/up": api.Link,
		"/nothing": api.NoFile, "/dir/file": api.NoFile, "/nothing/x": api.NoFile, "/file/x": api.NoFile, "/to-file/x": api.NoFile,
		"/to-self/x": api.NoFile, "/to-nothing/x": api.NoFile, "/file/x/../../file": api.NoFile, "/nothing/../file": api.NoFile,
		"/dir/sub/..": api.NoFile, "/to-sub/..": api.Dir, "/dir/sub/x/..": api.NoFile,
	} {
		wantKind(t, s, path, want)
	}
	for _, path := range wrongPaths() {
		wantKind(t, s, path, api.NoFile)
	}
}

// P3.4: a path whose Clean is / is a directory for Kind, even if no way leads there.
func TestKindOfRoot(t *testing.T) {
	s := sample(t)
	for _, path := range []string{"/", "//", "/.", "/./", "/..", "/../..", "/dir/..", "/dir/sub/../..", "/file/..", "/nothing/..",
		"/to-self/..", "/to-sub/..", "/a/../b/..", "/nothing/x/../../..", strings.Repeat("/", 200)} {
		wantKind(t, s, path, api.Dir)
	}
	wantKind(t, s, strings.Repeat("/", 201), api.NoFile)
}

// P3.4: names are told in increasing order of their bytes, those of one directory only.
func TestNames(t *testing.T) {
	s := files.New()
	for _, name := range []string{"b", "a", "a-b", "a.b", "a_b", "A", "Z", "_", "-", "0", "10", "9", "aa", "ab", "...", ".a"} {
		must(t, s.Put("/"+name, nil))
	}
	must(t, s.Mkdir("/d"), s.Mkdir("/d/a"), s.Put("/d/a/z", nil), s.Symlink("/d/l", "a"), s.Mkdir("/dd"), s.Put("/dd/y", nil))
	wantNames(t, s, "/", "-", "...", ".a", "0", "10", "9", "A", "Z", "_", "a", "a-b", "a.b", "a_b", "aa", "ab", "b", "d", "dd")
	wantNames(t, s, "/d", "a", "l")
	wantNames(t, s, "/d/l/", "z")
	wantNames(t, s, "/d/l/..", "a", "l")
	wantNames(t, s, "/dd", "y")
}

// P3.4: Names, Read and Find at the end of a way, with links followed.
func TestQueriesAtEnd(t *testing.T) {
	s := sample(t)
	for _, path := range []string{"/", "/dir", "/dir/up", "/to-dir", "/to-sub/.."} {
		wantNoFile(t, s, path, api.ErrDir)
	}
	for _, path := range []string{"/file", "/to-file", "/dir/up/to-file", "/dir/f", "/to-file/"} {
		if names, e := s.Names(path); e != api.ErrFile || len(names) != 0 {
			t.Errorf("Names(%q): %q, %d", path, names, e)
		}
	}
	wantNames(t, s, "/to-dir", "f", "sub", "up")
	wantNames(t, s, "/to-sub")
	wantNames(t, s, "/dir/up", "dir", "file", "to-dir", "to-file", "to-nothing", "to-self", "to-sub")
	wantFile(t, s, "/to-dir/f", 2, "two")
	wantFile(t, s, "/to-file/.", 1, "one")
}

// P3.4: the end of a way may lie deeper than a path can tell.
func TestRealBeyondPath(t *testing.T) {
	s := files.New()
	part := "/" + strings.Repeat("p", 64)
	for i := range 3 {
		must(t, s.Mkdir(strings.Repeat(part, i+1)))
	}
	must(t, s.Symlink("/l", strings.Repeat(part, 3)), s.Mkdir("/l"+part), s.Put("/l"+part+"/f", []byte("deep")))
	wantReal(t, s, "/l"+part, strings.Repeat(part, 4))
	wantReal(t, s, "/l"+part+"/f", strings.Repeat(part, 4)+"/f")
	wantReal(t, s, "/l"+part+"/..", strings.Repeat(part, 3))
	wantFile(t, s, "/l"+part+"/f", 1, "deep")
	wantNames(t, s, "/l"+part, "f")
	wantNoFile(t, s, strings.Repeat(part, 4)+"/f", api.ErrPath)
}

// P3.4: neither a store nor its copy sees what becomes of the other, and both go on with their own identities.
func TestCopy(t *testing.T) {
	s := sample(t)
	must(t, s.Also("/also", "/file"))
	was := told(t, s)
	c := s.Copy()
	must(t, c.Remove("/file"), c.Put("/dir/f", []byte("new")), c.Mkdir("/dir/sub/x"), c.Rename("/to-self", "/to-dir"), c.Put("/x", []byte("x")))
	if now := told(t, s); len(now) != len(was) {
		t.Errorf("the store has changed with its copy: %q", now)
	}
	for path, text := range was {
		if now := tellOf(s, path); now != text {
			t.Errorf("%s has changed with the copy: %q, was %q", path, now, text)
		}
	}
	wantFile(t, c, "/also", 1, "one")
	wantFile(t, c, "/dir/f", 3, "new")
	wantFile(t, c, "/x", 4, "x")
	must(t, s.Put("/y", []byte("y")), s.Put("/also", []byte("z")), s.Put("/dir/f", nil))
	wantFile(t, s, "/y", 3, "y")
	wantFile(t, s, "/also", 4, "z")
	wantFile(t, c, "/also", 1, "one")
	wantFile(t, c, "/dir/f", 3, "new")
	wantNames(t, c, "/", "also", "dir", "to-dir", "to-file", "to-nothing", "to-sub", "x")
}

// P3.4: the copy of a full store is full, and of an empty one empty.
func TestCopyOfEdges(t *testing.T) {
	c := files.New().Copy()
	wantNames(t, c, "/")
	must(t, c.Put("/x", nil))
	wantFile(t, c, "/x", 1, "")
	fill(t, c, 500)
	d := c.Copy()
	if e := d.Mkdir("/new"); e != api.ErrFull {
		t.Errorf("a copy of a full store takes one more: %d", e)
	}
	must(t, d.Remove("/x"), d.Mkdir("/new"))
	if e := c.Mkdir("/new"); e != api.ErrFull {
		t.Errorf("a full store takes one more: %d", e)
	}
}

// P3.5: under one identity the same bytes are read, whatever is written to the places of the file.
func TestBytesDoNotChange(t *testing.T) {
	s := sample(t)
	must(t, s.Also("/also", "/file"), s.Put("/file", []byte("second")))
	wantFile(t, s, "/also", 1, "one")
	wantFile(t, s, "/file", 3, "second")
	must(t, s.Also("/again", "/also"), s.Put("/also", nil), s.Rename("/file", "/also"), s.Put("/file", []byte("one")))
	wantFile(t, s, "/again", 1, "one")
	wantFile(t, s, "/also", 3, "second")
	wantFile(t, s, "/file", 5, "one")
	bytesOf := map[int]string{}
	for i := range 60 {
		from, to := "/p"+string(rune('a'+i%7)), "/p"+string(rune('a'+i%5))
		s.Put(from, []byte{byte(i)})
		s.Also(to, from)
		s.Rename(to, "/p"+string(rune('a'+i%3)))
		names, _ := s.Names("/")
		for _, name := range names {
			id, e := s.Find("/" + name)
			b, _ := s.Read("/" + name)
			if was, known := bytesOf[id]; e == api.OK && known && was != string(b) {
				t.Errorf("identity %d has the bytes %q, and had %q", id, b, was)
			}
			bytesOf[id] = string(b)
		}
	}
}

// P3.5 with W6: what is read is new, and so are names.
func TestResultsAreNew(t *testing.T) {
	s := sample(t)
	must(t, s.Also("/also", "/file"))
	one, _ := s.Read("/file")
	two, _ := s.Read("/file")
	clear(one)
	_ = append(one, 9)
	if string(two) != "one" {
		t.Errorf("two results share memory: %q", two)
	}
	wantFile(t, s, "/file", 1, "one")
	wantFile(t, s, "/also", 1, "one")
	names, _ := s.Names("/dir")
	clear(names)
	wantNames(t, s, "/dir", "f", "sub", "up")
}

// The examples of the chapter.
func TestExamples(t *testing.T) {
	s := files.New()
	must(t, s.Put("/x", []byte("b")), s.Put("/x", []byte("c")))
	wantFile(t, s, "/x", 2, "c")
	must(t, s.Mkdir("/d"), s.Symlink("/d/l", "../x"))
	wantFile(t, s, "/d/l", 2, "c")
	wantReal(t, s, "/d/l", "/x")
	must(t, s.Symlink("/l", "l"))
	wantNoWay(t, s, "/l", api.ErrLoop)
	must(t, s.Rename("/x", "/y"))
	wantFile(t, s, "/y", 2, "c")
}
