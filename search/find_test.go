package search_test

import (
	"strconv"
	"testing"

	"clevis/api"
	"clevis/files"
)

// P12.2: a file at each candidate alone is found, with its path and its identity.
func TestFindEachCandidate(t *testing.T) {
	q := asked("b", "/p", "/r1", "$ORIGIN").paths("/e1", "/e$LIB").cache("a", "/c/a", "b", "/c/b.1", "b", "/c/b.2")
	places := []string{"/r1/b", "/p/b", "/e1/b", "/elib/b", "/c/b.1", "/lib/b", "/usr/lib/b"}
	for _, place := range places {
		s := storeWith(t, "/r1", "/p", "/e1", "/elib", "/c", "/lib", "/usr", "/usr/lib")
		wantNotFound(t, s, q, api.ErrSearch)
		put(t, s, "/c/b.2", "/c/a", "/b", place)
		wantFound(t, s, q, place, 4)
	}
}

// P12.2: the first candidate with a file wins, whatever was put first.
func TestFindFirst(t *testing.T) {
	q := asked("b", "/p", "/r1", "$ORIGIN").paths("/e1", "/elib").cache("b", "/c/b.1")
	places := []string{"/r1/b", "/p/b", "/e1/b", "/elib/b", "/c/b.1", "/lib/b", "/usr/lib/b"}
	s := storeWith(t, "/r1", "/p", "/e1", "/elib", "/c", "/lib", "/usr", "/usr/lib")
	for i := len(places) - 1; i >= 0; i-- {
		put(t, s, places[i])
		wantFound(t, s, q, places[i], len(places)-i)
	}
	for i, place := range places {
		wantFound(t, s, q, place, len(places)-i)
		must(t, s.Remove(place))
	}
	wantNotFound(t, s, q, api.ErrSearch)
}

// P12.2: the identity is the one that the file has now, under whatever name it is found.
func TestFindIdentity(t *testing.T) {
	s := storeWith(t, "/lib", "/r")
	put(t, s, "/lib/b", "/lib/c", "/lib/b")
	wantFound(t, s, asked("b", ""), "/lib/b", 3)
	wantFound(t, s, asked("c", ""), "/lib/c", 2)
	must(t, s.Also("/r/d", "/lib/b"))
	wantFound(t, s, asked("d", "", "/r"), "/r/d", 3)
	must(t, s.Rename("/lib/c", "/lib/b"))
	wantFound(t, s, asked("b", ""), "/lib/b", 2)
	wantNotFound(t, s, asked("c", ""), api.ErrSearch)
}

// P12.2: a name with a slash is found at its path alone.
func TestFindByNameWithSlash(t *testing.T) {
	s := storeWith(t, "/lib", "/usr", "/usr/lib", "/p", "/p/lib")
	put(t, s, "/lib/b", "/usr/lib/b", "/p/lib/b", "/b")
	for name, c := range map[string]struct {
		path string
		id   int
	}{
		"/lib/b": {"/lib/b", 1}, "/usr/$LIB/b": {"/usr/lib/b", 2}, "$ORIGIN/$LIB/b": {"/p/lib/b", 3}, "/b": {"/b", 4}, "//x/..//b/.": {"/b", 4},
		"$ORIGIN/../b": {"/b", 4},
	} {
		wantFound(t, s, asked(name, "/p", "/lib").paths("/lib").cache(name, "/lib/b"), c.path, c.id)
	}
	for _, name := range []string{"/x", "/x/b", "/b/b", "/lib", "/", "$ORIGIN/b", "$ORIGIN/", "/lib/b/b", "/p/lib/../b"} {
		wantNotFound(t, s, asked(name, "/p", "/lib").paths("/lib").cache(name, "/lib/b", "b", "/lib/b"), api.ErrSearch)
	}
}

// P12.2: the error of the candidates, also where a file is at a path that could be meant.
func TestFindErrors(t *testing.T) {
	s := storeWith(t, "/lib", "/a")
	put(t, s, "/a/b", "/lib/b", "/b")
	for _, c := range []struct {
		q    query
		want api.Errno
	}{
		{asked("", "/p", "/lib"), api.ErrSearch},
		{asked(pathOf(201), "/p", "/lib"), api.ErrSearch},
		{asked("$X/b", "/p", "/lib"), api.ErrToken},
		{asked("$ORIGIN/b", pathOf(199), "/lib"), api.ErrLong},
		{asked("a/b", "/", "/", ""), api.ErrPath},
		{asked("$LIB/b", "/", "/", ""), api.ErrPath},
		{asked("/a b/../b", "/", "/"), api.ErrPath},
	} {
		wantNotFound(t, s, c.q, c.want)
		wantNotFound(t, s, c.q.paths("/lib", "/", "").cache(c.q.name, "/lib/b", "b", "/b"), c.want)
	}
}

// P12.2: without any candidate, nothing is found, even if there is one for other names.
func TestFindWithoutCandidates(t *testing.T) {
	s := storeWith(t, "/lib", "/c")
	put(t, s, "/lib/b", "/lib/lib", "/c/b", "/b")
	for _, name := range []string{"$LIB", "$ORIGIN", "b ", "b$", long(65), long(200), "é", "\x00"} {
		q := asked(name, "/lib", "/lib", "").paths("/lib")
		wantNotFound(t, s, q, api.ErrSearch)
		wantNotFound(t, s, q.cache("b", "/c/b", name, "b", name, "/c/b"), api.ErrSearch)
		wantFound(t, s, q.cache(name, "/c/b"), "/c/b", 3)
	}
}

// P12.2: directories are not found, also those that a dot names.
func TestFindNoDirectories(t *testing.T) {
	s := storeWith(t, "/lib", "/usr", "/usr/lib", "/lib/b", "/lib/b/c", "/r")
	put(t, s, "/lib/b/x", "/b")
	for _, name := range []string{".", "..", "b", "lib", "/", "/lib/", "/lib/b", "$ORIGIN/.."} {
		wantNotFound(t, s, asked(name, "/r", "/r", "/lib", "/usr").paths("/usr/lib").cache(name, "/lib"), api.ErrSearch)
	}
	put(t, s, "/usr/lib/b")
	wantFound(t, s, asked("b", "/r", "/r", "/lib"), "/usr/lib/b", 3)
	wantFound(t, s, asked(".", "/r", "/b"), "/b", 2)
}

// block lays something down at a place at which no file is found then: a link, or a directory if it would lead nowhere.
func block(t *testing.T, s *files.Store, place, to string) {
	t.Helper()
	if to == "" {
		must(t, s.Mkdir(place))
	} else {
		must(t, s.Symlink(place, to))
	}
}

// P12.2: whatever else than a file is at the first candidates, the next one is found, or nothing is.
func TestFindBehindObstacles(t *testing.T) {
	for _, to := range []string{"", "nothing", "/nothing/b", ".", "/", "b", "b/b", "/f/b", "../usr"} {
		for _, q := range []query{asked("b", "/p", "/r", "/q"), asked("b", "/p", "/r").paths("/q"), asked("b", "/p").paths("/r", "/q"), asked("b", "/p", "/r").cache("b", "/q/b")} {
			s := storeWith(t, "/r", "/q", "/lib", "/usr", "/usr/lib")
			put(t, s, "/f")
			block(t, s, "/r/b", to)
			wantNotFound(t, s, q, api.ErrSearch)
			put(t, s, "/lib/b")
			wantFound(t, s, q, "/lib/b", 2)
			put(t, s, "/q/b")
			wantFound(t, s, q, "/q/b", 3)
			must(t, s.Remove("/q/b"), s.Remove("/lib/b"))
			block(t, s, "/q/b", to)
			block(t, s, "/lib/b", to)
			wantNotFound(t, s, q, api.ErrSearch)
			put(t, s, "/usr/lib/b")
			wantFound(t, s, q, "/usr/lib/b", 4)
		}
	}
}

// P12.2: directories that are missing, or are files or wrong links, are passed over.
func TestFindBehindWrongDirectories(t *testing.T) {
	s := storeWith(t, "/lib")
	put(t, s, "/f", "/lib/b")
	must(t, s.Symlink("/loop", "loop"), s.Symlink("/to-f", "f"), s.Symlink("/to-nothing", "nothing"))
	wrong := []string{"/none", "/f", "/f/x", "/loop", "/to-f", "/to-nothing", "/none/x", "rel", "/a b", "$X"}
	for _, dir := range wrong {
		wantFound(t, s, asked("b", "/p", dir), "/lib/b", 2)
		wantFound(t, s, asked("b", "/p").paths(dir), "/lib/b", 2)
		wantFound(t, s, asked("b", "/p").cache("b", dir+"/b", "b", "/f"), "/lib/b", 2)
		wantNotFound(t, s, asked("f", "/p", dir), api.ErrSearch)
	}
	wantFound(t, s, asked("b", "/p", wrong...).paths(wrong...), "/lib/b", 2)
	wantFound(t, s, asked("f", "/p", wrong...).paths(append(wrong, "")...), "/f", 1)
}

// P12.2: the path of what is found is the one without links.
func TestFindThroughLinks(t *testing.T) {
	s := storeWith(t, "/lib", "/r", "/r/deep", "/d")
	put(t, s, "/d/b.1", "/r/deep/c")
	must(t,
		s.Symlink("/lib/b", "../d/b.1"),
		s.Symlink("/lib/b2", "b"),
		s.Symlink("/to-lib", "lib"),
		s.Symlink("/to-deep", "/r/deep/./"),
		s.Symlink("/d/up", ".."),
	)
	wantFound(t, s, asked("b", "/p"), "/d/b.1", 1)
	wantFound(t, s, asked("b2", "/p"), "/d/b.1", 1)
	wantFound(t, s, asked("b2", "/p", "/to-lib"), "/d/b.1", 1)
	wantFound(t, s, asked("b.1", "/d/up/d", "$ORIGIN"), "/d/b.1", 1)
	wantFound(t, s, asked("c", "/p", "/to-deep"), "/r/deep/c", 2)
	wantFound(t, s, asked("c", "/p").paths("/d/up/to-deep"), "/r/deep/c", 2)
	wantFound(t, s, asked("x", "/p").cache("x", "/to-deep/c"), "/r/deep/c", 2)
	wantFound(t, s, asked("/to-lib/b", "/p"), "/d/b.1", 1)
	wantFound(t, s, asked("up", "/p", "/x", "/d").cache("up", "/d/up/lib/b"), "/d/b.1", 1)
}

// P12.1 and P12.2: candidates are cleaned without regard to links, so that .. behind a link does not lead to where it leads.
func TestFindCleansBeforeLinks(t *testing.T) {
	s := storeWith(t, "/a", "/a/d", "/r")
	put(t, s, "/a/b", "/b")
	must(t, s.Symlink("/r/l", "/a/d"))
	wantNotFound(t, s, asked("b", "/p", "/r/l/.."), api.ErrSearch)
	wantNotFound(t, s, asked("/r/l/../b", "/p"), api.ErrSearch)
	wantFound(t, s, asked("b", "/p", "/r/l/../.."), "/b", 2)
	wantFound(t, s, asked("b", "/p", "/none/.."), "/b", 2)
	put(t, s, "/r/b")
	wantFound(t, s, asked("b", "/p", "/r/l/..", "/a"), "/r/b", 3)
}

// P12.2: a way may lead through eight links. At the ninth one, the search goes on.
func TestFindThroughManyLinks(t *testing.T) {
	s := storeWith(t, "/lib", "/r")
	put(t, s, "/r/l0", "/lib/l9")
	for i := 1; i <= 9; i++ {
		must(t, s.Symlink("/r/l"+strconv.Itoa(i), "l"+strconv.Itoa(i-1)))
	}
	for i := range 9 {
		wantFound(t, s, asked("l"+strconv.Itoa(i), "/p", "/r"), "/r/l0", 1)
	}
	wantFound(t, s, asked("l9", "/p", "/r"), "/lib/l9", 2)
	wantNotFound(t, s, asked("/r/l9", "/p"), api.ErrSearch)
}

// P12.2: the path of what is found may be longer than one that is asked for.
func TestFindDeep(t *testing.T) {
	dir := "/" + long(60)
	s := storeWith(t, dir, dir+dir, dir+dir+dir)
	must(t, s.Symlink("/down", dir+dir+dir), s.Mkdir("/down"+dir), s.Symlink("/deeper", "/down"+dir))
	put(t, s, "/deeper/b")
	wantFound(t, s, asked("b", "/p", "/deeper"), dir+dir+dir+dir+"/b", 1)
	wantFound(t, s, asked("/deeper/b", "/p"), dir+dir+dir+dir+"/b", 1)
	wantNotFound(t, s, asked("b", "/p", dir+dir+dir+dir), api.ErrSearch)
}

// P12.2: an empty directory of a run path, and an empty origin, lead to the names in /.
func TestFindInEmptyDirectory(t *testing.T) {
	s := storeWith(t, "/lib")
	put(t, s, "/lib/b", "/b")
	wantFound(t, s, asked("b", "", "$ORIGIN"), "/b", 2)
	wantFound(t, s, asked("b", "/lib", ""), "/b", 2)
	wantFound(t, s, asked("b", "/lib").paths(""), "/b", 2)
	wantFound(t, s, asked("b", "/lib", "$ORIGIN", ""), "/lib/b", 1)
	wantFound(t, s, asked("b", "/lib").cache("b", ""), "/lib/b", 1)
	wantFound(t, s, asked("$ORIGIN/b", ""), "/b", 2)
}

// P12.2: a store that is empty, or full.
func TestFindInStoresOfEachSize(t *testing.T) {
	s := files.New()
	q := asked("b", "/p", "/r", "").paths("/e").cache("b", "/c")
	wantNotFound(t, s, q, api.ErrSearch)
	wantNotFound(t, s, asked("/", "/"), api.ErrSearch)
	for i := range 500 {
		put(t, s, "/f"+strconv.Itoa(i))
	}
	wantNotFound(t, s, q, api.ErrSearch)
	wantFound(t, s, q.named("f499"), "/f499", 500)
	wantFound(t, s, q.cache("b", "/f0"), "/f0", 1)
}
