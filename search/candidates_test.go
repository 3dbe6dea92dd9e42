package search_test

import (
	"strconv"
	"strings"
	"testing"

	"clevis/api"
)

// P12.1: the examples of the chapter.
func TestExamples(t *testing.T) {
	wantCandidates(t, asked("x.so", "/p", "$ORIGIN/lib"), "/p/lib/x.so", "/lib/x.so", "/usr/lib/x.so")
	wantCandidates(t, asked("$ORIGIN/x", "/p", "/r"), "/p/x")
	wantError(t, asked("a/b", "/p", "/r"), api.ErrPath)
}

// P12.1: the order of all candidates.
func TestOrder(t *testing.T) {
	q := asked("b", "/p", "/r1", "/r2", "/r3").paths("/e1", "/e2", "/e3").cache("b", "/c/b.1")
	wantLast(t, q, "/r1/b", "/r2/b", "/r3/b", "/e1/b", "/e2/b", "/e3/b", "/c/b.1")
	q = asked("b", "/p", "/z", "/a", "/m").paths("/y", "/b", "/n").cache("b", "/0")
	wantLast(t, q, "/z/b", "/a/b", "/m/b", "/y/b", "/b/b", "/n/b", "/0")
}

// P12.1: each part of the search may have nothing.
func TestParts(t *testing.T) {
	wantLast(t, asked("b", "/p"))
	wantLast(t, asked("b", "/p", "/r"), "/r/b")
	wantLast(t, asked("b", "/p").paths("/e"), "/e/b")
	wantLast(t, asked("b", "/p").cache("b", "/c/b.1"), "/c/b.1")
	wantLast(t, asked("b", "/p", "/r").paths("/e"), "/r/b", "/e/b")
	wantLast(t, asked("b", "/p", "/r").cache("b", "/c/b.1"), "/r/b", "/c/b.1")
	wantLast(t, asked("b", "/p").paths("/e").cache("b", "/c/b.1"), "/e/b", "/c/b.1")
	wantLast(t, query{name: "b"})
}

// P12.1: a path stays as often as it is a candidate, at each of its positions.
func TestRepeated(t *testing.T) {
	q := asked("b", "/p", "/r", "/lib", "/r").paths("/r", "/usr/lib", "/lib").cache("b", "/lib/b")
	wantLast(t, q, "/r/b", "/lib/b", "/r/b", "/r/b", "/usr/lib/b", "/lib/b", "/lib/b")
}

// P12.1: directories are expanded with the origin, in run paths and in the Paths.
func TestTokensOfDirectories(t *testing.T) {
	for _, c := range []struct{ dir, want string }{
		{"$ORIGIN", "/o/p/b"},
		{"$ORIGIN/../$LIB", "/o/lib/b"},
		{"/$LIB", "/lib/b"},
		{"/usr/$LIB/x", "/usr/lib/x/b"},
		{"$ORIGIN$ORIGIN", "/o/p/o/p/b"},
		{"$ORIGINAL", "/o/pAL/b"},
		{"/a/$LIBRARY", "/a/libRARY/b"},
		{"/a$ORIGIN/$LIB", "/a/o/p/lib/b"},
	} {
		wantLast(t, asked("b", "/o/p", c.dir), c.want)
		wantLast(t, asked("b", "/o/p").paths(c.dir), c.want)
		wantLast(t, asked("b", "/o/p", "/r", c.dir).paths(c.dir, "/e"), "/r/b", c.want, c.want, "/e/b")
	}
}

// P12.1: an origin is inserted as it is, so that it may make a directory no path, or a longer one.
func TestOrigins(t *testing.T) {
	for _, c := range []struct {
		origin string
		want   []string
	}{
		{"/", []string{"/b", "/x/b"}},
		{"", []string{"/b", "/x/b"}},
		{"/o/./q//", []string{"/o/q/b", "/o/q/x/b"}},
		{"/o/..", []string{"/b", "/x/b"}},
		{"o", nil},
		{"$LIB", nil},
		{"/$ORIGIN", nil},
		{"/a b", nil},
		{"/" + long(65), nil},
		{long(201), nil},
	} {
		q := asked("b", c.origin, "$ORIGIN", "$ORIGIN/x")
		wantLast(t, q, c.want...)
		wantLast(t, asked("b", c.origin).paths(q.runPath...), c.want...)
		wantLast(t, asked("b", c.origin, "/r"), "/r/b")
	}
}

// P12.1: candidates are cleaned.
func TestCleaned(t *testing.T) {
	for _, c := range []struct{ dir, want string }{
		{"/r/", "/r/b"},
		{"//r//s//", "/r/s/b"},
		{"/./r/.", "/r/b"},
		{"/r/s/..", "/r/b"},
		{"/r/..", "/b"},
		{"/..", "/b"},
		{"/../../r", "/r/b"},
		{"/r/s/../../t/./u", "/t/u/b"},
		{"/", "/b"},
		{"//", "/b"},
		{"/.", "/b"},
	} {
		wantLast(t, asked("b", "/p", c.dir), c.want)
		wantLast(t, asked("b", "/p").paths(c.dir), c.want)
		wantLast(t, asked("b", "/p").cache("b", c.dir+"/b"), c.want)
	}
	wantLast(t, asked("b", "/p").cache("b", "/"), "/")
	wantLast(t, asked("b", "/p").cache("b", "/r/.."), "/")
}

// P12.1: an empty directory, also one that becomes empty, leaves the slash and the name.
func TestEmptyDirectories(t *testing.T) {
	wantLast(t, asked("b", "/p", ""), "/b")
	wantLast(t, asked("b", "/p").paths(""), "/b")
	wantLast(t, asked("b", "", "$ORIGIN").paths("$ORIGIN$ORIGIN"), "/b", "/b")
	wantLast(t, asked("b", "/p", "/r", "", "/s").paths("", "/e", ""), "/r/b", "/b", "/s/b", "/b", "/e/b", "/b")
	wantCandidates(t, asked(".", "/p", ""), "/", "/lib", "/usr/lib")
	wantLast(t, asked("b", "/p").cache("b", ""))
}

// wrongDirs cannot be expanded, with the origin /p, or make no path with a name behind them.
func wrongDirs() []string {
	return []string{
		"r", "r/s", "./r", "../r", ".", "..", " ", " /r", "$LIB", "$LIB/x", "x$ORIGIN", "lib",
		"$", "$lib", "/r/$", "/r/$X", "$ORIGI", "/$ORIGIN/$$", "$origin", "/r$",
		"/a b", "/a:b", "/r:/s", "/a\\b", "/é", "/\x00", "/\xff", "/a\n", "/{}", "/r/~", "/+",
		"/" + long(65), "/r/" + long(65) + "/..", "/" + long(1000), pathOf(199), pathOf(200), pathOf(201), "$ORIGIN" + pathOf(197),
		"/" + strings.Repeat("$LIB", 50), strings.Repeat("$ORIGIN", 29), strings.Repeat("/..", 66) + "/", long(1 << 16),
	}
}

// P12.1: a directory that cannot be expanded or cleaned is omitted, and the others stay in their order.
func TestOmittedDirectories(t *testing.T) {
	for _, wrong := range wrongDirs() {
		wantLast(t, asked("b", "/p", wrong))
		wantLast(t, asked("b", "/p").paths(wrong))
		wantLast(t, asked("b", "/p", wrong, "/r", "/s").paths("/e").cache("b", "/c"), "/r/b", "/s/b", "/e/b", "/c")
		wantLast(t, asked("b", "/p", "/r", wrong, "/s").paths("/e").cache("b", "/c"), "/r/b", "/s/b", "/e/b", "/c")
		wantLast(t, asked("b", "/p", "/r", "/s", wrong).paths(wrong, "/e").cache("b", "/c"), "/r/b", "/s/b", "/e/b", "/c")
		wantLast(t, asked("b", "/p", "/r").paths("/e", wrong, wrong, "/f", wrong).cache("b", "/c"), "/r/b", "/e/b", "/f/b", "/c")
	}
	wantLast(t, asked("b", "/p", wrongDirs()...).paths(wrongDirs()...))
}

// P12.1: of the cache, the Path of the first element with the name counts, and no other one.
func TestCache(t *testing.T) {
	wantLast(t, asked("b", "/p").cache("a", "/c/a", "b", "/c/b", "c", "/c/c"), "/c/b")
	wantLast(t, asked("b", "/p").cache("b", "/1", "b", "/2", "b", "/3"), "/1")
	wantLast(t, asked("b", "/p").cache("a", "/0", "b", "/2", "a", "/1", "b", "/1"), "/2")
	wantLast(t, asked("b", "/p").cache("a", "/c/b", "c", "/b"))
	wantLast(t, asked("b", "/p").cache("B", "/1", "bb", "/2", "", "/3", "b ", "/4", "/b", "/5", "b.so", "/6", "$b", "/7"))
	wantLast(t, asked("b", "/p").cache("b", "/other/name"), "/other/name")
}

// P12.1: a Path of the cache that cannot be cleaned is omitted, without another element in its place. It is not expanded.
func TestOmittedCache(t *testing.T) {
	for _, wrong := range []string{
		"", "b", "c/b", "./b", "../b", "/a b", "/a:b", "/é", "/\x00", "/\xff", "/" + long(65), pathOf(201), long(1 << 16),
		"$ORIGIN/b", "$ORIGIN", "/$LIB/b", "$LIB", "/b$", strings.Repeat("/", 201),
	} {
		wantLast(t, asked("b", "/p").cache("b", wrong))
		wantLast(t, asked("b", "/p", "/r").paths("/e").cache("b", wrong, "b", "/c"), "/r/b", "/e/b")
		wantLast(t, asked("b", "/p").cache("a", wrong, "b", "/c"), "/c")
		wantLast(t, asked("b", "/p").cache("b", "/c", "b", wrong), "/c")
	}
	wantLast(t, asked("b", "/p").cache("b", pathOf(200)), pathOf(200))
}

// P12.1: a name with a slash is expanded and cleaned, and nothing else is a candidate.
func TestNameWithSlash(t *testing.T) {
	for _, c := range []struct{ name, want string }{
		{"/", "/"},
		{"//", "/"},
		{"/b", "/b"},
		{"/b/", "/b"},
		{"/a/./x/../b", "/a/b"},
		{"/../b", "/b"},
		{"/.", "/"},
		{"/..", "/"},
		{"$ORIGIN/b", "/p/q/b"},
		{"$ORIGIN/../b", "/p/b"},
		{"$ORIGIN/", "/p/q"},
		{"/a$ORIGIN", "/a/p/q"},
		{"/$LIB/b", "/lib/b"},
		{"$ORIGINAL/b", "/p/qAL/b"},
		{"$ORIGIN/$LIB/$ORIGIN", "/p/q/lib/p/q"},
	} {
		wantCandidates(t, asked(c.name, "/p/q"), c.want)
		wantCandidates(t, asked(c.name, "/p/q", "/r", "").paths("/e", "").cache(c.name, "/c", c.want, "/d", "b", "/f"), c.want)
	}
}

// P12.1: the error of a name with a slash is that of expanding, and otherwise that of cleaning.
func TestErrorsOfNameWithSlash(t *testing.T) {
	for _, c := range []struct {
		name, origin string
		want         api.Errno
	}{
		{"$lib/x", "/p", api.ErrToken},
		{"/$", "/p", api.ErrToken},
		{"a b/$X", "/p", api.ErrToken},
		{"a/$ORIGI", "/p", api.ErrToken},
		{"$ORIGIN$/x", long(201), api.ErrToken},
		{"$ORIGIN/x", pathOf(199), api.ErrLong},
		{"$ORIGIN/x", long(199), api.ErrLong},
		{"$ORIGIN/ /", long(201), api.ErrLong},
		{"/$ORIGIN", long(200), api.ErrLong},
		{"a/b", "/p", api.ErrPath},
		{"./b", "/p", api.ErrPath},
		{"../b", "/p", api.ErrPath},
		{"b/", "/p", api.ErrPath},
		{"$LIB/b", "/p", api.ErrPath},
		{"x$ORIGIN/b", "/p", api.ErrPath},
		{"$ORIGIN/b", "p", api.ErrPath},
		{"$ORIGIN/b", "$LIB", api.ErrPath},
		{"$ORIGIN/b", "/a b", api.ErrPath},
		{"/a b", "/p", api.ErrPath},
		{"/a:b", "/p", api.ErrPath},
		{"/é", "/p", api.ErrPath},
		{"/\x00", "/p", api.ErrPath},
		{"/\xff", "/p", api.ErrPath},
		{"/" + long(65), "/p", api.ErrPath},
		{"/" + long(65) + "/..", "/p", api.ErrPath},
		{"/" + long(63) + "$LIB", "/p", api.ErrPath},
	} {
		wantError(t, asked(c.name, c.origin), c.want)
		wantError(t, asked(c.name, c.origin, "/r").paths("/e").cache(c.name, "/c"), c.want)
	}
}

// P12.1: the empty name, and a name of more than 200 bytes, before what else is wrong with it.
func TestErrSearch(t *testing.T) {
	for _, name := range []string{
		"", long(201), pathOf(201), long(1 << 16), strings.Repeat("/", 201), strings.Repeat("é", 101), strings.Repeat("\xff", 201),
		"$/" + long(199), "$lib/" + long(196), "$ORIGIN/" + long(193), strings.Repeat("$LIB", 50) + "/", strings.Repeat("a/", 101), strings.Repeat("/.", 101),
	} {
		wantError(t, asked(name, "/p"), api.ErrSearch)
		wantError(t, asked(name, long(201), "/r", "").paths("/e").cache(name, "/c", "", "/c"), api.ErrSearch)
	}
}

// P12.1: names of 200 bytes are searched for, with a slash and without.
func TestLongestNames(t *testing.T) {
	wantCandidates(t, asked(pathOf(200), "/p"), pathOf(200))
	wantCandidates(t, asked(strings.Repeat("/", 200), "/p"), "/")
	wantCandidates(t, asked(strings.Repeat("/.", 100), "/p"), "/")
	wantCandidates(t, asked("$ORIGIN/"+pathOf(192), ""), pathOf(192))
	wantError(t, asked("$"+pathOf(199), "/p"), api.ErrToken)
	wantError(t, asked("$ORIGIN"+pathOf(193), "/ppppppp"), api.ErrLong)
	wantCandidates(t, asked("$ORIGIN"+pathOf(193), "/pppppp"), "/pppppp"+pathOf(193))
	wantError(t, asked(long(199)+"/", "/p"), api.ErrPath)
	for _, name := range []string{long(200), strings.Repeat("é", 100), strings.Repeat("$LIB", 50), strings.Repeat("\xff", 200)} {
		wantCandidates(t, asked(name, "/p", "/r", "").paths("/e"))
		wantCandidates(t, asked(name, "/p", "/r").cache(name[:199], "/b", name, "/c", name, "/d"), "/c")
	}
}

// P12.1: expanded names with a slash, of all lengths around 200 bytes.
func TestLengthsOfExpandedNames(t *testing.T) {
	for n := 150; n <= 210; n++ {
		for _, c := range []query{asked("$ORIGIN/x", pathOf(n-2)), asked("$ORIGIN"+pathOf(n-70), pathOf(70)), asked("/$LIB"+pathOf(n-4), "/p")} {
			want := strings.ReplaceAll(strings.ReplaceAll(c.name, "$ORIGIN", c.origin), "$LIB", "lib")
			switch {
			case len(c.name) > 200:
				wantError(t, c, api.ErrSearch)
			case len(want) > 200:
				wantError(t, c, api.ErrLong)
			default:
				wantCandidates(t, c, want)
			}
		}
	}
}

// P12.1: expanded directories, and these with a name, of all lengths around 200 bytes. What is cut off by cleaning counts.
func TestLengthsOfDirectories(t *testing.T) {
	for n := 100; n <= 210; n++ {
		for _, dir := range []string{pathOf(n), "$ORIGIN" + pathOf(n-60), "/$LIB" + pathOf(n-4), pathOf(n-80) + "$ORIGIN/" + long(19)} {
			expanded := strings.ReplaceAll(strings.ReplaceAll(dir, "$ORIGIN", pathOf(60)), "$LIB", "lib")
			for _, name := range []string{"b", "..", long(30), long(64)} {
				q := asked(name, pathOf(60), "/r", dir)
				last := []string{"/r/" + name, expanded + "/" + name, "/lib/" + name, "/usr/lib/" + name}
				if name == ".." {
					last = []string{"/", expanded[:strings.LastIndex(expanded, "/")], "/", "/usr"}
				}
				if len(dir) > 200 || len(expanded)+1+len(name) > 200 {
					last = append(last[:1], last[2:]...)
				}
				wantCandidates(t, q, last...)
			}
		}
	}
}

// P12.1: a name that is . or .. names directories.
func TestDots(t *testing.T) {
	wantCandidates(t, asked(".", "/p", "/r/s", "$ORIGIN").paths("/"), "/r/s", "/p", "/", "/lib", "/usr/lib")
	wantCandidates(t, asked("..", "/p", "/r/s", "$ORIGIN").paths("/", "/a/b/c"), "/r", "/", "/", "/a/b", "/", "/usr")
	wantLast(t, asked("...", "/p", "/r"), "/r/...")
	wantCandidates(t, asked("..", "/p").cache("..", "/c", ".", "/d"), "/c", "/", "/usr")
}

// P12.1: each of the 256 bytes as a name, in one, in a directory and in a Path of the cache.
func TestEachByte(t *testing.T) {
	const partBytes = "abcdefghijklmnopqrstuvwxyzABCDEFGHIJKLMNOPQRSTUVWXYZ0123456789.-_"
	for c := range 256 {
		s := string([]byte{byte(c)})
		if s == "/" {
			continue
		}
		q := asked("x"+s+"y", "/p", "/r").paths("/e").cache("x"+s+"y", "/c")
		inDirs := asked("b", "/p", "/r"+s+"r").paths("/e"+s+"e").cache("b", "/c"+s+"c")
		if !strings.Contains(partBytes, s) {
			wantCandidates(t, q, "/c")
			wantCandidates(t, q.named(s))
			wantCandidates(t, q.named(s).cache(s, "/c"), "/c")
			wantError(t, q.named("/x"+s+"y"), errorOfByte(s))
			wantLast(t, inDirs)
			continue
		}
		wantLast(t, q, "/r/x"+s+"y", "/e/x"+s+"y", "/c")
		wantCandidates(t, q.named("/x"+s+"y"), "/x"+s+"y")
		wantLast(t, inDirs, "/r"+s+"r/b", "/e"+s+"e/b", "/c"+s+"c")
		if s != "." {
			wantLast(t, q.named(s), "/r/"+s, "/e/"+s)
		}
	}
}

// errorOfByte returns the error of a name with a slash that has a byte that no path may have.
func errorOfByte(s string) api.Errno {
	if s == "$" {
		return api.ErrToken
	}
	return api.ErrPath
}

// P12.1: a name without a slash is not expanded; of one that no part of a path may be, the cache alone may have something.
func TestNamesThatAreNoParts(t *testing.T) {
	for _, name := range []string{"$ORIGIN", "$LIB", "$", "$lib", "a$LIB", "a b", "a:b", "a\\b", "\x00", "b\n", " ", "é", "\xff", long(65), long(200)} {
		wantCandidates(t, asked(name, "/p"))
		wantCandidates(t, asked(name, "/p", "/r", "", "$ORIGIN").paths("/e", "/$LIB"))
		wantCandidates(t, asked(name, "/p", "/r").paths("/e").cache("b", "/c"))
		wantCandidates(t, asked(name, "/p", "/r").paths("/e").cache(name, "/c", name, "/d"), "/c")
		wantCandidates(t, asked(name, "/p", "/r").cache(name, "c", name, "/d"))
	}
	for _, name := range []string{long(64), "-", "_", "ORIGIN", "x.so.1", "..a", "a.."} {
		wantLast(t, asked(name, "/p", "/r").cache(name, "/c"), "/r/"+name, "/c")
	}
}

// P12.1: lists have no limit of their own.
func TestManyPaths(t *testing.T) {
	var q query
	var pairs, want []string
	q.name = "b"
	for i := range 3000 {
		n := strconv.Itoa(i)
		q.runPath = append(q.runPath, "/r"+n)
		want = append(want, "/r"+n+"/b")
		pairs = append(pairs, "a"+n, "/c"+n)
	}
	for i := range 3000 {
		n := strconv.Itoa(i)
		q.env.Paths = append(q.env.Paths, "$LIB", "/e"+n)
		want = append(want, "/e"+n+"/b")
	}
	wantLast(t, q.cache(append(pairs, "b", "/c/b", "b", "/c/c")...), append(want, "/c/b")...)
}
